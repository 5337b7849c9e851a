/- Mirrors of code, stage 1. -/
import Derived.Test.YtkgcicbipcifdaaZn
namespace Go.Proofs.Ytkgcicbipcifdaa.Ab
open Go
attribute [local irreducible] arun

structure SPlace where
  Height : Int
  Surface : Bool
def SPlace.enc (x : SPlace) : List AV := [.int .i64 x.Height, .bool x.Surface]
def SPlace.dec (l : List AV) : SPlace := ⟨intA (gd l 0), boolA (gd l 1)⟩
structure SSpan where
  Low : Int
  High : Int
def SSpan.enc (x : SSpan) : List AV := [.int .i64 x.Low, .int .i64 x.High]
def SSpan.dec (l : List AV) : SSpan := ⟨intA (gd l 0), intA (gd l 1)⟩
structure SRoad where
  From : Int
  To : Int
  Length : Int
  Area : Int
  Walk : Bool
  Closed : Bool
  Rest : SSpan
  Lift : SSpan
def SRoad.enc (x : SRoad) : List AV := [.int .i64 x.From, .int .i64 x.To, .int .i64 x.Length, .int .i64 x.Area, .bool x.Walk, .bool x.Closed, .int .i64 x.Rest.Low, .int .i64 x.Rest.High, .int .i64 x.Lift.Low, .int .i64 x.Lift.High]
def SRoad.dec (l : List AV) : SRoad := ⟨intA (gd l 0), intA (gd l 1), intA (gd l 2), intA (gd l 3), boolA (gd l 4), boolA (gd l 5), ⟨intA (gd l 6), intA (gd l 7)⟩, ⟨intA (gd l 8), intA (gd l 9)⟩⟩
structure SMine where
  Places : (Sq SPlace)
  Roads : (Sq SRoad)
def SMine.enc (x : SMine) : List AV := [sqA 2 SPlace.enc x.Places, sqA 10 SRoad.enc x.Roads]
def SMine.dec (l : List AV) : SMine := ⟨sqD SPlace.dec (gd l 0), sqD SRoad.dec (gd l 1)⟩
structure SCodes where
  l_ : (Sq Int)
  at_ : Int
def SCodes.enc (x : SCodes) : List AV := [sqA 1 (eI .u8) x.l_, .int .i64 x.at_]
def SCodes.dec (l : List AV) : SCodes := ⟨sqD dI (gd l 0), intA (gd l 1)⟩
structure SEdit where
  Kind : Int
  Place : SPlace
  New : SRoad
  Road : Int
  Span : SSpan
def SEdit.enc (x : SEdit) : List AV := [.int .i64 x.Kind, .int .i64 x.Place.Height, .bool x.Place.Surface, .int .i64 x.New.From, .int .i64 x.New.To, .int .i64 x.New.Length, .int .i64 x.New.Area, .bool x.New.Walk, .bool x.New.Closed, .int .i64 x.New.Rest.Low, .int .i64 x.New.Rest.High, .int .i64 x.New.Lift.Low, .int .i64 x.New.Lift.High, .int .i64 x.Road, .int .i64 x.Span.Low, .int .i64 x.Span.High]
def SEdit.dec (l : List AV) : SEdit := ⟨intA (gd l 0), ⟨intA (gd l 1), boolA (gd l 2)⟩, ⟨intA (gd l 3), intA (gd l 4), intA (gd l 5), intA (gd l 6), boolA (gd l 7), boolA (gd l 8), ⟨intA (gd l 9), intA (gd l 10)⟩, ⟨intA (gd l 11), intA (gd l 12)⟩⟩, intA (gd l 13), ⟨intA (gd l 14), intA (gd l 15)⟩⟩

/-! minecontrol/minecontroldraw.New -/
noncomputable def New_t (l : Sq Int) : DT (SCodes) :=
 .ite (decide ((0 : Int) ≤ (if (300 : Int) < ((l.n : Nat) : Int) then (300 : Int) else ((l.n : Nat) : Int)) ∧ (if (300 : Int) < ((l.n : Nat) : Int) then (300 : Int) else ((l.n : Nat) : Int)) ≤ ((l.n : Nat) : Int))) (.leaf (SCodes.mk (Sq.mk (Int.toNat (if (300 : Int) < ((l.n : Nat) : Int) then (300 : Int) else ((l.n : Nat) : Int))) l.f) (0 : Int))) (.fail)
noncomputable def New_m : FnM := nfM ((Sq Int)) (SCodes) (fun p => ([sqA 1 (eI .u8) p], [])) (fun p => New_t p) (fun _ => .ptr 0 0) (fun _ r => [.var (SCodes.enc r)])
noncomputable def New_env : Env := envM [] [] [] [] [] 0
theorem New_tells : Tells Try.prog 4 New_m.c := New_m.tells Try.func4 (show ∀ p, arun New_env Try.f4 (New_m.enc p).1 (New_m.enc p).2 = _ from fun p => by kernel_rfl) noLoops .nil
noncomputable def New (l : Sq Int) : Option (SCodes) := New_m.val l
theorem New_eq (l : Sq Int) : New l = (New_t l).get := New_m.val_eq (fun x => sqD dI (gd x.1 0)) (fun p => by kernel_rfl) l

/-! (*minecontrol/minecontroldraw.Codes).Next -/
noncomputable def Codes_Next_t (c : SCodes) (n : Int) : DT (Int × Int) :=
 .ite (decide (n < (1 : Int))) (
 .leaf ((0 : Int), c.at_)) (
 .ite (decide (c.at_ ≥ ((c.l_.n : Nat) : Int))) (
 .leaf ((0 : Int), c.at_)) (
 .ite (decide ((0 : Int) ≤ (wr ((wr (c.at_ + (1 : Int))) - (1 : Int))) ∧ (wr ((wr (c.at_ + (1 : Int))) - (1 : Int))) < ((c.l_.n : Nat) : Int))) (
 .ite (decide (n > (256 : Int))) (
 .ite (decide ((wr (c.at_ + (1 : Int))) < ((c.l_.n : Nat) : Int))) (
 .ite (decide ((0 : Int) ≤ (wr (c.at_ + (1 : Int))) ∧ (wr (c.at_ + (1 : Int))) < ((c.l_.n : Nat) : Int))) (
 .ite (n != 0) (.leaf ((Int.tmod (wr ((wr ((wr (c.l_.f (Int.toNat (wr ((wr (c.at_ + (1 : Int))) - (1 : Int)))))) * (256 : Int))) + (wr (c.l_.f (Int.toNat (wr (c.at_ + (1 : Int)))))))) n), (wr ((wr (c.at_ + (1 : Int))) + (1 : Int))))) (.fail)) (
 .fail)) (
 .ite (n != 0) (.leaf ((Int.tmod (wr (c.l_.f (Int.toNat (wr ((wr (c.at_ + (1 : Int))) - (1 : Int)))))) n), (wr (c.at_ + (1 : Int))))) (.fail))) (
 .ite (n != 0) (.leaf ((Int.tmod (wr (c.l_.f (Int.toNat (wr ((wr (c.at_ + (1 : Int))) - (1 : Int)))))) n), (wr (c.at_ + (1 : Int))))) (.fail))) (
 .fail)))
noncomputable def Codes_Next_m : FnM := nfM (SCodes × Int) (Int × Int) (fun p => ([.ptr 0 0, .int .i64 p.2], [.var (SCodes.enc p.1)])) (fun p => Codes_Next_t p.1 p.2) (fun r => .int .i64 r.1) (fun ins r => [.var [cellB ins 0 0, .int .i64 r.2]])
noncomputable def Codes_Next_env : Env := envM [] [] [] [] [] 1
theorem Codes_Next_tells : Tells Try.prog 18 Codes_Next_m.c := Codes_Next_m.tells Try.func18 (show ∀ p, arun Codes_Next_env Try.f18 (Codes_Next_m.enc p).1 (Codes_Next_m.enc p).2 = _ from fun p => by kernel_rfl) noLoops .nil
noncomputable def Codes_Next (c : SCodes) (n : Int) : Option (Int × Int) := Codes_Next_m.val (c, n)
theorem Codes_Next_eq (c : SCodes) (n : Int) : Codes_Next c n = (Codes_Next_t c n).get := Codes_Next_m.val_eq (fun x => (SCodes.dec (varL (dB x.2 0)), intA (gd x.1 1))) (fun p => by kernel_rfl) (c, n)

/-! (*minecontrol/minecontroldraw.Codes).Range -/
noncomputable def Codes_Range_t (c : SCodes) (low high : Int) : DT (Int × Int) :=
 .bind (Codes_Next c (wr ((wr (high - low)) + (1 : Int)))) fun z0 =>
 .leaf ((wr (low + z0.1)), z0.2)
noncomputable def Codes_Range_m : FnM := nfM (SCodes × Int × Int) (Int × Int) (fun p => ([.ptr 0 0, .int .i64 p.2.1, .int .i64 p.2.2], [.var (SCodes.enc p.1)])) (fun p => Codes_Range_t p.1 p.2.1 p.2.2) (fun r => .int .i64 r.1) (fun ins r => [.var [cellB ins 0 0, .int .i64 r.2]])
noncomputable def Codes_Range_env : Env := envM [(18, Codes_Next_m.c)] [] [] [] [] 1
theorem Codes_Range_tells : Tells Try.prog 19 Codes_Range_m.c := Codes_Range_m.tells Try.func19 (show ∀ p, arun Codes_Range_env Try.f19 (Codes_Range_m.enc p).1 (Codes_Range_m.enc p).2 = _ from fun p => by kernel_rfl) noLoops (.cons Codes_Next_tells .nil)
noncomputable def Codes_Range (c : SCodes) (low high : Int) : Option (Int × Int) := Codes_Range_m.val (c, low, high)
theorem Codes_Range_eq (c : SCodes) (low high : Int) : Codes_Range c low high = (Codes_Range_t c low high).get := Codes_Range_m.val_eq (fun x => (SCodes.dec (varL (dB x.2 0)), intA (gd x.1 1), intA (gd x.1 2))) (fun p => by kernel_rfl) (c, low, high)

/-! (*minecontrol/minecontroldraw.Codes).One -/
noncomputable def Codes_One_t (c : SCodes) (n : Int) : DT (Bool × Int) :=
 .bind (Codes_Next c n) fun z0 =>
 .leaf ((z0.1 == (wr (n - (1 : Int)))), z0.2)
noncomputable def Codes_One_m : FnM := nfM (SCodes × Int) (Bool × Int) (fun p => ([.ptr 0 0, .int .i64 p.2], [.var (SCodes.enc p.1)])) (fun p => Codes_One_t p.1 p.2) (fun r => .bool r.1) (fun ins r => [.var [cellB ins 0 0, .int .i64 r.2]])
noncomputable def Codes_One_env : Env := envM [(18, Codes_Next_m.c)] [] [] [] [] 1
theorem Codes_One_tells : Tells Try.prog 20 Codes_One_m.c := Codes_One_m.tells Try.func20 (show ∀ p, arun Codes_One_env Try.f20 (Codes_One_m.enc p).1 (Codes_One_m.enc p).2 = _ from fun p => by kernel_rfl) noLoops (.cons Codes_Next_tells .nil)
noncomputable def Codes_One (c : SCodes) (n : Int) : Option (Bool × Int) := Codes_One_m.val (c, n)
theorem Codes_One_eq (c : SCodes) (n : Int) : Codes_One c n = (Codes_One_t c n).get := Codes_One_m.val_eq (fun x => (SCodes.dec (varL (dB x.2 0)), intA (gd x.1 1))) (fun p => by kernel_rfl) (c, n)

/-! (*minecontrol/minecontroldraw.Codes).Road -/
noncomputable def Codes_Road_t (c : SCodes) (from_ to_ : Int) : DT (SRoad × Int) :=
 .bind (Codes_Range c (1 : Int) (400 : Int)) fun z0 =>
 .bind (Codes_Range (SCodes.mk c.l_ z0.2) (4 : Int) (30 : Int)) fun z1 =>
 .bind (Codes_Next (SCodes.mk c.l_ z1.2) (4 : Int)) fun z2 =>
 .bind (Codes_Range (SCodes.mk c.l_ z2.2) (1 : Int) (20 : Int)) fun z3 =>
 .bind (Codes_Next (SCodes.mk c.l_ z3.2) (3 : Int)) fun z4 =>
 .bind (Codes_Range (SCodes.mk c.l_ z4.2) (-300 : Int) (300 : Int)) fun z5 =>
 .bind (Codes_Next (SCodes.mk c.l_ z5.2) (20 : Int)) fun z6 =>
 .leaf ((SRoad.mk from_ to_ z0.1 z1.1 (decide (z2.1 > (0 : Int))) false (SSpan.mk z3.1 (wr (z3.1 + z4.1))) (SSpan.mk z5.1 (wr (z5.1 + z6.1)))), z6.2)
noncomputable def Codes_Road_m : FnM := nfM (SCodes × Int × Int) (SRoad × Int) (fun p => ([.ptr 0 0, .int .i64 p.2.1, .int .i64 p.2.2], [.var (SCodes.enc p.1)])) (fun p => Codes_Road_t p.1 p.2.1 p.2.2) (fun r => .agg (SRoad.enc r.1)) (fun ins r => [.var [cellB ins 0 0, .int .i64 r.2]])
noncomputable def Codes_Road_env : Env := envM [(19, Codes_Range_m.c), (18, Codes_Next_m.c)] [] [] [] [] 1
theorem Codes_Road_tells : Tells Try.prog 21 Codes_Road_m.c := Codes_Road_m.tells Try.func21 (show ∀ p, arun Codes_Road_env Try.f21 (Codes_Road_m.enc p).1 (Codes_Road_m.enc p).2 = _ from fun p => by kernel_rfl) noLoops (.cons Codes_Range_tells (.cons Codes_Next_tells .nil))
noncomputable def Codes_Road (c : SCodes) (from_ to_ : Int) : Option (SRoad × Int) := Codes_Road_m.val (c, from_, to_)
theorem Codes_Road_eq (c : SCodes) (from_ to_ : Int) : Codes_Road c from_ to_ = (Codes_Road_t c from_ to_).get := Codes_Road_m.val_eq (fun x => (SCodes.dec (varL (dB x.2 0)), intA (gd x.1 1), intA (gd x.1 2))) (fun p => by kernel_rfl) (c, from_, to_)

/-! (*minecontrol/minecontroldraw.Codes).Mine -/
noncomputable def Codes_Mine_l3_step (u3_1 : Sq Int) (u3_0 u3_2 : Int) (u3_3 : Sq SPlace) : DT (LR (Int × Int × (Sq SPlace)) (Int × (Sq SPlace)) (Unit)) :=
 .ite (decide (u3_0 > (0 : Int))) (
 .bind (Codes_Range (SCodes.mk u3_1 u3_2) (-60 : Int) (60 : Int)) fun z0 =>
 .bind (Codes_One (SCodes.mk u3_1 z0.2) (5 : Int)) fun z1 =>
 .ite (decide ((u3_3.n + 1) * 16 ≤ 140737488355328 ∧ (u3_3.n + 1) ≤ 1099511627776)) (
 .leaf (.next ((wr (u3_0 - (1 : Int))), z1.2, (Sq.mk (u3_3.n + 1) (fun k0 => (SPlace.mk (cond (Nat.blt k0 u3_3.n) (u3_3.f k0).Height z0.1) (cond (Nat.blt k0 u3_3.n) (u3_3.f k0).Surface z1.1))))))) (
 .fail)) (
 .leaf (.l (u3_2, u3_3)))
noncomputable def Codes_Mine_l3_m : LpM := ⟨(Sq Int), Int × Int × (Sq SPlace), Int × (Sq SPlace), Unit, fun p => ⟨[(0, .ptr 0 0), (2, .ptr 1 0), (3, .ptr 257 0), (4, .int .i64 p.2.1)], [(0, .var [sqA 1 (eI .u8) p.1, .int .i64 p.2.2.1]), (1, .var [.own 2 0, .own 3 0]), (2, .nilrow 0), (3, .nilrow 0), (129, rowA 0 2 45 SPlace.enc p.2.2.2), (194, .nilrow 0), (257, .var [.own 129 0, .own 194 0])], 641⟩, fun f v => Codes_Mine_l3_step f v.1 v.2.1 v.2.2, true, (.exit 0), (fun x a => ⟨[(0, .ptr 0 0), (2, .ptr 1 0), (3, .ptr 257 0)], [(0, .var [cellS x 0 0, .int .i64 a.1]), (1, .var [.own 2 0, .own 3 0]), (2, .nilrow 0), (3, .nilrow 0), (129, rowA 0 2 45 SPlace.enc a.2), (194, .nilrow 0), (257, .var [.own 129 0, .own 194 0])], 641⟩), .ret, (fun _ _ => ⟨[], [], 0⟩), c1, c1k⟩
noncomputable def Codes_Mine_l3 (u3_1 : Sq Int) (u3_0 u3_2 : Int) (u3_3 : Sq SPlace) : Option ((Int × (Sq SPlace)) ⊕ (Unit)) := Codes_Mine_l3_m.val (u3_1, (u3_0, u3_2, u3_3))
theorem Codes_Mine_l3_eq (u3_1 : Sq Int) (u3_0 u3_2 : Int) (u3_3 : Sq SPlace) : Codes_Mine_l3 u3_1 u3_0 u3_2 u3_3 = fixO (fun v : Int × Int × (Sq SPlace) => Codes_Mine_l3_step u3_1 v.1 v.2.1 v.2.2) (u3_0, u3_2, u3_3) := Codes_Mine_l3_m.val_eq (fun x => (sqD dI (cellS x 0 0), (intA (aget x.tm 4), intA (cellS x 0 1), sqB SPlace.dec (blkS x 129)))) (fun p => by kernel_rfl) (u3_1, (u3_0, u3_2, u3_3))
noncomputable def Codes_Mine_l8_step (u8_2 : Sq Int) (u8_4 : Sq SPlace) (u8_1 u8_3 : Int) (u8_5 : Sq SRoad) : DT (LR (Int × Int × (Sq SRoad)) (Int × (Sq SRoad)) (Unit)) :=
 .ite (decide (u8_1 > (0 : Int))) (
 .bind (Codes_Next (SCodes.mk u8_2 u8_3) ((u8_4.n : Nat) : Int)) fun z2 =>
 .bind (Codes_Next (SCodes.mk u8_2 z2.2) (wr (((u8_4.n : Nat) : Int) - (1 : Int)))) fun z3 =>
 .ite (((u8_4.n : Nat) : Int) != 0) (
 .bind (Codes_Road (SCodes.mk u8_2 z3.2) z2.1 (Int.tmod (wr ((wr (z2.1 + (1 : Int))) + z3.1)) ((u8_4.n : Nat) : Int))) fun z4 =>
 .bind (Codes_One (SCodes.mk u8_2 z4.2) (6 : Int)) fun z5 =>
 .ite (decide ((u8_5.n + 1) * 72 ≤ 140737488355328 ∧ (u8_5.n + 1) ≤ 1099511627776)) (
 .leaf (.next ((wr (u8_1 - (1 : Int))), z5.2, (Sq.mk (u8_5.n + 1) (fun k1 => (SRoad.mk (cond (Nat.blt k1 u8_5.n) (u8_5.f k1).From z4.1.From) (cond (Nat.blt k1 u8_5.n) (u8_5.f k1).To z4.1.To) (cond (Nat.blt k1 u8_5.n) (u8_5.f k1).Length z4.1.Length) (cond (Nat.blt k1 u8_5.n) (u8_5.f k1).Area z4.1.Area) (cond (Nat.blt k1 u8_5.n) (u8_5.f k1).Walk z4.1.Walk) (cond (Nat.blt k1 u8_5.n) (u8_5.f k1).Closed z5.1) (SSpan.mk (cond (Nat.blt k1 u8_5.n) (u8_5.f k1).Rest.Low z4.1.Rest.Low) (cond (Nat.blt k1 u8_5.n) (u8_5.f k1).Rest.High z4.1.Rest.High)) (SSpan.mk (cond (Nat.blt k1 u8_5.n) (u8_5.f k1).Lift.Low z4.1.Lift.Low) (cond (Nat.blt k1 u8_5.n) (u8_5.f k1).Lift.High z4.1.Lift.High)))))))) (
 .fail)) (
 .fail)) (
 .leaf (.l (u8_3, u8_5)))
noncomputable def Codes_Mine_l8_m : LpM := ⟨(Sq Int) × (Sq SPlace), Int × Int × (Sq SRoad), Int × (Sq SRoad), Unit, fun p => ⟨[(0, .ptr 0 0), (2, .ptr 1 0), (3, .ptr 257 0), (5, .int .i64 ((p.1.2.n : Nat) : Int)), (6, .int .i64 p.2.1)], [(0, .var [sqA 1 (eI .u8) p.1.1, .int .i64 p.2.2.1]), (1, .var [.own 2 0, .own 3 0]), (2, .nilrow 0), (3, .nilrow 0), (129, rowA 0 2 45 SPlace.enc p.1.2), (194, rowA 0 10 51 SRoad.enc p.2.2.2), (257, .var [.own 129 0, .own 194 0])], 1089⟩, fun f v => Codes_Mine_l8_step f.1 f.2 v.1 v.2.1 v.2.2, true, (.exit 2), (fun x a => ⟨[(2, .ptr 1 0), (3, .ptr 257 0)], [(0, .var [cellS x 0 0, .int .i64 a.1]), (1, .var [.own 2 0, .own 3 0]), (2, .nilrow 0), (3, .nilrow 0), (129, blkS x 129), (194, rowA 0 10 51 SRoad.enc a.2), (257, .var [.own 129 0, .own 194 0])], 1089⟩), .ret, (fun _ _ => ⟨[], [], 0⟩), c1, c1k⟩
noncomputable def Codes_Mine_l8 (u8_2 : Sq Int) (u8_4 : Sq SPlace) (u8_1 u8_3 : Int) (u8_5 : Sq SRoad) : Option ((Int × (Sq SRoad)) ⊕ (Unit)) := Codes_Mine_l8_m.val ((u8_2, u8_4), (u8_1, u8_3, u8_5))
theorem Codes_Mine_l8_eq (u8_2 : Sq Int) (u8_4 : Sq SPlace) (u8_1 u8_3 : Int) (u8_5 : Sq SRoad) : Codes_Mine_l8 u8_2 u8_4 u8_1 u8_3 u8_5 = fixO (fun v : Int × Int × (Sq SRoad) => Codes_Mine_l8_step u8_2 u8_4 v.1 v.2.1 v.2.2) (u8_1, u8_3, u8_5) := Codes_Mine_l8_m.val_eq (fun x => ((sqD dI (cellS x 0 0), sqB SPlace.dec (blkS x 129)), (intA (aget x.tm 6), intA (cellS x 0 1), sqB SRoad.dec (blkS x 194)))) (fun p => by kernel_rfl) ((u8_2, u8_4), (u8_1, u8_3, u8_5))
noncomputable def Codes_Mine_t (c : SCodes) : DT (SMine × Int) :=
 .bind (Codes_Next c (6 : Int)) fun z6 =>
 .sum (Codes_Mine_l3 c.l_ (wr ((1 : Int) + z6.1)) z6.2 (Sq.mk 1 (fun _ => (SPlace.mk (0 : Int) true)))) (fun y0 =>
 .bind (Codes_Next (SCodes.mk c.l_ y0.1) (9 : Int)) fun z7 =>
 .sum (Codes_Mine_l8 c.l_ y0.2 z7.1 z7.2 (Sq.mk 0 (fun _ => (SRoad.mk (0 : Int) (0 : Int) (0 : Int) (0 : Int) false false (SSpan.mk (0 : Int) (0 : Int)) (SSpan.mk (0 : Int) (0 : Int)))))) (fun y1 =>
 .leaf ((SMine.mk y0.2 y1.2), y1.1)) (fun _ => .fail)) (fun _ => .fail)
noncomputable def Codes_Mine_m : FnM := nfM (SCodes) (SMine × Int) (fun p => ([.ptr 0 0], [.var (SCodes.enc p)])) (fun p => Codes_Mine_t p) (fun _ => .agg [.own 1 0, .own 2 0]) (fun ins r => [.var [cellB ins 0 0, .int .i64 r.2], rowA 0 2 45 SPlace.enc r.1.Places, rowA 0 10 51 SRoad.enc r.1.Roads])
noncomputable def Codes_Mine_env : Env := envM [(18, Codes_Next_m.c), (19, Codes_Range_m.c), (20, Codes_One_m.c), (21, Codes_Road_m.c)] [(3, [0, 2, 3, 4], [0, 2, 3]), (8, [0, 2, 3, 5, 6], [2, 3])] [(3, Codes_Mine_l3_m.c), (8, Codes_Mine_l8_m.c)] [(1000008, [.asrow 194 51 10 (fun _ => SRoad.enc (SRoad.mk (0 : Int) (0 : Int) (0 : Int) (0 : Int) false false (SSpan.mk (0 : Int) (0 : Int)) (SSpan.mk (0 : Int) (0 : Int))))])] [(3, [0, 1, 2, 3, 129, 194, 257]), (8, [0, 1, 2, 3, 129, 194, 257])] 1
noncomputable def Codes_Mine_e : Env := { Codes_Mine_env with nt := 63 }
theorem Codes_Mine_l3_tells : LoopTells Codes_Mine_e (loopOf 3 Try.f5) Codes_Mine_l3_m.c := Codes_Mine_l3_m.tells 641 (fun _ => by kernel_rfl) (fun _ _ _ _ => by kernel_rfl) (fun _ _ _ _ => by kernel_rfl) fun R f v N K => by kernel_rfl
theorem Codes_Mine_l8_tells : LoopTells Codes_Mine_e (loopOf 8 Try.f5) Codes_Mine_l8_m.c := Codes_Mine_l8_m.tells 1089 (fun _ => by kernel_rfl) (fun _ _ _ _ => by kernel_rfl) (fun _ _ _ _ => by kernel_rfl) fun R f v N K => by kernel_rfl
theorem Codes_Mine_tells : Tells Try.prog 5 Codes_Mine_m.c := Codes_Mine_m.tells Try.func5 (show ∀ p, arun Codes_Mine_env Try.f5 (Codes_Mine_m.enc p).1 (Codes_Mine_m.enc p).2 = _ from fun p => by kernel_rfl) (loopsL [loopOf 3 Try.f5, loopOf 8 Try.f5] (by kernel_rfl) ⟨lpT (by kernel_rfl) Codes_Mine_l3_tells, ⟨lpT (by kernel_rfl) Codes_Mine_l8_tells, trivial⟩⟩) (.cons Codes_Next_tells (.cons Codes_Range_tells (.cons Codes_One_tells (.cons Codes_Road_tells .nil))))
noncomputable def Codes_Mine (c : SCodes) : Option (SMine × Int) := Codes_Mine_m.val c
theorem Codes_Mine_eq (c : SCodes) : Codes_Mine c = (Codes_Mine_t c).get := Codes_Mine_m.val_eq (fun x => SCodes.dec (varL (dB x.2 0))) (fun p => by kernel_rfl) c

/-! minecontrol/minecontroldraw.Mod -/
noncomputable def Mod_t (k n : Int) : DT (Int) :=
 .ite (decide (n < (1 : Int))) (
 .leaf (0 : Int)) (
 .ite (n != 0) (
 .ite (decide ((Int.tmod k n) < (0 : Int))) (.leaf (wr ((Int.tmod k n) + n))) (.leaf (Int.tmod k n))) (
 .fail))
noncomputable def Mod_m : FnM := flM (Int × Int) (Int) (fun p => ([.int .i64 p.1, .int .i64 p.2], [])) (fun p => Mod_t p.1 p.2) (fun r => .int .i64 r) (fun _ => rfl)
noncomputable def Mod_env : Env := envM [] [] [] [] [] 0
theorem Mod_tells : Tells Try.prog 6 Mod_m.c := Mod_m.tells Try.func6 (show ∀ p, arun Mod_env Try.f6 (Mod_m.enc p).1 (Mod_m.enc p).2 = _ from fun p => by kernel_rfl) noLoops .nil
noncomputable def Mod (k n : Int) : Option (Int) := Mod_m.val (k, n)
theorem Mod_eq (k n : Int) : Mod k n = (Mod_t k n).get := Mod_m.val_eq (fun x => (intA (gd x.1 0), intA (gd x.1 1))) (fun p => by kernel_rfl) (k, n)

/-! minecontrol/plan.Roads -/
noncomputable def plan_Roads_l3_step (u3_0 : Int) (u3_1 : Sq SRoad) (u3_3 : Sq Int) (u3_4 : Int) : DT (LR ((Sq Int) × Int) ((Sq Int)) (Unit)) :=
 .ite (decide (u3_4 < ((u3_1.n : Nat) : Int))) (
 .ite (decide ((0 : Int) ≤ u3_4 ∧ u3_4 < ((u3_1.n : Nat) : Int))) (
 .ite ((u3_1.f (Int.toNat u3_4)).From == u3_0) (
 .ite (decide ((u3_3.n + 1) * 8 ≤ 140737488355328 ∧ (u3_3.n + 1) ≤ 1099511627776)) (
 .leaf (.next ((Sq.mk (u3_3.n + 1) (fun k0 => (cond (Nat.blt k0 u3_3.n) (u3_3.f k0) u3_4))), (wr (u3_4 + (1 : Int)))))) (
 .fail)) (
 .ite ((u3_1.f (Int.toNat u3_4)).To == u3_0) (
 .ite (decide ((u3_3.n + 1) * 8 ≤ 140737488355328 ∧ (u3_3.n + 1) ≤ 1099511627776)) (
 .leaf (.next ((Sq.mk (u3_3.n + 1) (fun k1 => (cond (Nat.blt k1 u3_3.n) (u3_3.f k1) u3_4))), (wr (u3_4 + (1 : Int)))))) (
 .fail)) (
 .leaf (.next (u3_3, (wr (u3_4 + (1 : Int)))))))) (
 .fail)) (
 .leaf (.l u3_3))
noncomputable def plan_Roads_l3_m : LpM := ⟨Int × (Sq SRoad), (Sq Int) × Int, (Sq Int), Unit, fun p => ⟨[(1, .int .i64 p.1.1), (5, .own 128 0), (9, sqA 10 SRoad.enc p.1.2), (10, .int .i64 ((p.1.2.n : Nat) : Int)), (11, .int .i64 p.2.2)], [(128, rowA 0 1 3 (eI .i64) p.2.1)], 448⟩, fun f v => plan_Roads_l3_step f.1 f.2 v.1 v.2, true, (.exit 0), (fun _ a => ⟨[(5, .own 128 0)], [(128, rowA 0 1 3 (eI .i64) a)], 448⟩), .ret, (fun _ _ => ⟨[], [], 0⟩), c1, c1k⟩
noncomputable def plan_Roads_l3 (u3_0 : Int) (u3_1 : Sq SRoad) (u3_3 : Sq Int) (u3_4 : Int) : Option (((Sq Int)) ⊕ (Unit)) := plan_Roads_l3_m.val ((u3_0, u3_1), (u3_3, u3_4))
theorem plan_Roads_l3_eq (u3_0 : Int) (u3_1 : Sq SRoad) (u3_3 : Sq Int) (u3_4 : Int) : plan_Roads_l3 u3_0 u3_1 u3_3 u3_4 = fixO (fun v : (Sq Int) × Int => plan_Roads_l3_step u3_0 u3_1 v.1 v.2) (u3_3, u3_4) := plan_Roads_l3_m.val_eq (fun x => ((intA (aget x.tm 1), sqD SRoad.dec (aget x.tm 9)), (sqB dI (blkS x 128), intA (aget x.tm 11)))) (fun p => by kernel_rfl) ((u3_0, u3_1), (u3_3, u3_4))
noncomputable def plan_Roads_t (m : SMine) (place : Int) : DT ((Sq Int)) :=
 .sum (plan_Roads_l3 place m.Roads (Sq.mk 0 (fun _ => (0 : Int))) (0 : Int)) (fun y0 =>
 .leaf y0) (fun _ => .fail)
noncomputable def plan_Roads_m : FnM := nfM (SMine × Int) ((Sq Int)) (fun p => ([.agg (SMine.enc p.1), .int .i64 p.2], [])) (fun p => plan_Roads_t p.1 p.2) (fun _ => .own 0 0) (fun _ r => [rowA 0 1 3 (eI .i64) r])
noncomputable def plan_Roads_env : Env := envM [] [(3, [1, 5, 9, 10, 11], [5])] [(3, plan_Roads_l3_m.c)] [(1000003, [.asrow 128 3 1 (fun _ => (eI .i64) (0 : Int))])] [(3, [128])] 0
noncomputable def plan_Roads_e : Env := { plan_Roads_env with nt := 32 }
theorem plan_Roads_l3_tells : LoopTells plan_Roads_e (loopOf 3 Try.f8) plan_Roads_l3_m.c := plan_Roads_l3_m.tells 448 (fun _ => by kernel_rfl) (fun _ _ _ _ => by kernel_rfl) (fun _ _ _ _ => by kernel_rfl) fun R f v N K => by kernel_rfl
theorem plan_Roads_tells : Tells Try.prog 8 plan_Roads_m.c := plan_Roads_m.tells Try.func8 (show ∀ p, arun plan_Roads_env Try.f8 (plan_Roads_m.enc p).1 (plan_Roads_m.enc p).2 = _ from fun p => by kernel_rfl) (loopsL [loopOf 3 Try.f8] (by kernel_rfl) ⟨lpT (by kernel_rfl) plan_Roads_l3_tells, trivial⟩) .nil
noncomputable def plan_Roads (m : SMine) (place : Int) : Option ((Sq Int)) := plan_Roads_m.val (m, place)
theorem plan_Roads_eq (m : SMine) (place : Int) : plan_Roads m place = (plan_Roads_t m place).get := plan_Roads_m.val_eq (fun x => (SMine.dec (aggL (gd x.1 0)), intA (gd x.1 1))) (fun p => by kernel_rfl) (m, place)

/-! minecontrol/minecontrolref01.Roads -/
noncomputable def ref01_Roads_l3_step (u3_0 : Int) (_u3_1 : Sq SPlace) (u3_2 : Sq SRoad) (u3_3 : Sq Int) (u3_4 : Int) : DT (LR ((Sq Int) × Int) ((Sq Int)) (Unit)) :=
 .ite (decide (u3_4 < ((u3_2.n : Nat) : Int))) (
 .ite (decide ((0 : Int) ≤ u3_4 ∧ u3_4 < ((u3_2.n : Nat) : Int))) (
 .ite ((u3_2.f (Int.toNat u3_4)).From == u3_0) (
 .ite (decide ((u3_3.n + 1) * 8 ≤ 140737488355328 ∧ (u3_3.n + 1) ≤ 1099511627776)) (
 .leaf (.next ((Sq.mk (u3_3.n + 1) (fun k0 => (cond (Nat.blt k0 u3_3.n) (u3_3.f k0) u3_4))), (wr (u3_4 + (1 : Int)))))) (
 .fail)) (
 .ite (decide ((0 : Int) ≤ u3_4 ∧ u3_4 < ((u3_2.n : Nat) : Int))) (
 .ite ((u3_2.f (Int.toNat u3_4)).To == u3_0) (
 .ite (decide ((u3_3.n + 1) * 8 ≤ 140737488355328 ∧ (u3_3.n + 1) ≤ 1099511627776)) (
 .leaf (.next ((Sq.mk (u3_3.n + 1) (fun k1 => (cond (Nat.blt k1 u3_3.n) (u3_3.f k1) u3_4))), (wr (u3_4 + (1 : Int)))))) (
 .fail)) (
 .leaf (.next (u3_3, (wr (u3_4 + (1 : Int))))))) (
 .fail))) (
 .fail)) (
 .leaf (.l u3_3))
noncomputable def ref01_Roads_l3_m : LpM := ⟨Int × (Sq SPlace) × (Sq SRoad), (Sq Int) × Int, (Sq Int), Unit, fun p => ⟨[(1, .int .i64 p.1.1), (2, .ptr 0 0), (5, .own 128 0), (6, .int .i64 p.2.2)], [(0, .var [sqA 2 SPlace.enc p.1.2.1, sqA 10 SRoad.enc p.1.2.2]), (128, rowA 0 1 3 (eI .i64) p.2.1)], 256⟩, fun f v => ref01_Roads_l3_step f.1 f.2.1 f.2.2 v.1 v.2, true, (.exit 0), (fun x a => ⟨[(5, .own 128 0)], [(0, blkS x 0), (128, rowA 0 1 3 (eI .i64) a)], 256⟩), .ret, (fun _ _ => ⟨[], [], 0⟩), c1, c1k⟩
noncomputable def ref01_Roads_l3 (u3_0 : Int) (u3_1 : Sq SPlace) (u3_2 : Sq SRoad) (u3_3 : Sq Int) (u3_4 : Int) : Option (((Sq Int)) ⊕ (Unit)) := ref01_Roads_l3_m.val ((u3_0, u3_1, u3_2), (u3_3, u3_4))
theorem ref01_Roads_l3_eq (u3_0 : Int) (u3_1 : Sq SPlace) (u3_2 : Sq SRoad) (u3_3 : Sq Int) (u3_4 : Int) : ref01_Roads_l3 u3_0 u3_1 u3_2 u3_3 u3_4 = fixO (fun v : (Sq Int) × Int => ref01_Roads_l3_step u3_0 u3_1 u3_2 v.1 v.2) (u3_3, u3_4) := ref01_Roads_l3_m.val_eq (fun x => ((intA (aget x.tm 1), sqD SPlace.dec (cellS x 0 0), sqD SRoad.dec (cellS x 0 1)), (sqB dI (blkS x 128), intA (aget x.tm 6)))) (fun p => by kernel_rfl) ((u3_0, u3_1, u3_2), (u3_3, u3_4))
noncomputable def ref01_Roads_t (m : SMine) (place : Int) : DT ((Sq Int)) :=
 .sum (ref01_Roads_l3 place m.Places m.Roads (Sq.mk 0 (fun _ => (0 : Int))) (0 : Int)) (fun y0 =>
 .leaf y0) (fun _ => .fail)
noncomputable def ref01_Roads_m : FnM := nfM (SMine × Int) ((Sq Int)) (fun p => ([.agg (SMine.enc p.1), .int .i64 p.2], [])) (fun p => ref01_Roads_t p.1 p.2) (fun _ => .own 0 0) (fun _ r => [rowA 0 1 3 (eI .i64) r])
noncomputable def ref01_Roads_env : Env := envM [] [(3, [1, 2, 5, 6], [5])] [(3, ref01_Roads_l3_m.c)] [(1000003, [.asrow 128 3 1 (fun _ => (eI .i64) (0 : Int))])] [(3, [0, 128])] 0
noncomputable def ref01_Roads_e : Env := { ref01_Roads_env with nt := 37 }
theorem ref01_Roads_l3_tells : LoopTells ref01_Roads_e (loopOf 3 Try.f9) ref01_Roads_l3_m.c := ref01_Roads_l3_m.tells 256 (fun _ => by kernel_rfl) (fun _ _ _ _ => by kernel_rfl) (fun _ _ _ _ => by kernel_rfl) fun R f v N K => by kernel_rfl
theorem ref01_Roads_tells : Tells Try.prog 9 ref01_Roads_m.c := ref01_Roads_m.tells Try.func9 (show ∀ p, arun ref01_Roads_env Try.f9 (ref01_Roads_m.enc p).1 (ref01_Roads_m.enc p).2 = _ from fun p => by kernel_rfl) (loopsL [loopOf 3 Try.f9] (by kernel_rfl) ⟨lpT (by kernel_rfl) ref01_Roads_l3_tells, trivial⟩) .nil
noncomputable def ref01_Roads (m : SMine) (place : Int) : Option ((Sq Int)) := ref01_Roads_m.val (m, place)
theorem ref01_Roads_eq (m : SMine) (place : Int) : ref01_Roads m place = (ref01_Roads_t m place).get := ref01_Roads_m.val_eq (fun x => (SMine.dec (aggL (gd x.1 0)), intA (gd x.1 1))) (fun p => by kernel_rfl) (m, place)

/-! minecontrol/minecontrolref01.Ints -/
noncomputable def ref01_Ints_l4_step (u4_0 u4_1 : Sq Int) (u4_2 : Int) : DT (LR (Int) (Unit) (Unit)) :=
 .ite (decide (u4_2 < ((u4_0.n : Nat) : Int))) (
 .ite (decide ((0 : Int) ≤ u4_2 ∧ u4_2 < ((u4_0.n : Nat) : Int))) (
 .ite (decide ((0 : Int) ≤ u4_2 ∧ u4_2 < ((u4_1.n : Nat) : Int))) (
 .ite ((u4_0.f (Int.toNat u4_2)) != (u4_1.f (Int.toNat u4_2))) (
 .leaf (.r ())) (
 .leaf (.next (wr (u4_2 + (1 : Int)))))) (
 .fail)) (
 .fail)) (
 .leaf (.l ()))
noncomputable def ref01_Ints_l4_m : LpM := ⟨(Sq Int) × (Sq Int), Int, Unit, Unit, fun p => ⟨[(0, sqA 1 (eI .i64) p.1.1), (1, sqA 1 (eI .i64) p.1.2), (5, .int .i64 p.2)], [], 512⟩, fun f v => ref01_Ints_l4_step f.1 f.2 v, false, (.exit 0), (fun _ _ => ⟨[(4, .undef)], [], 512⟩), .ret, (fun _ _ => ⟨[(4, .bool false)], [], 512⟩), c1, c1k⟩
noncomputable def ref01_Ints_l4 (u4_0 u4_1 : Sq Int) (u4_2 : Int) : Option ((Unit) ⊕ (Unit)) := ref01_Ints_l4_m.val ((u4_0, u4_1), u4_2)
theorem ref01_Ints_l4_eq (u4_0 u4_1 : Sq Int) (u4_2 : Int) : ref01_Ints_l4 u4_0 u4_1 u4_2 = fixO (fun v : Int => ref01_Ints_l4_step u4_0 u4_1 v) u4_2 := ref01_Ints_l4_m.val_eq (fun x => ((sqD dI (aget x.tm 0), sqD dI (aget x.tm 1)), intA (aget x.tm 5))) (fun p => by kernel_rfl) ((u4_0, u4_1), u4_2)
noncomputable def ref01_Ints_t (a b : Sq Int) : DT (Bool) :=
 .ite (((a.n : Nat) : Int) != ((b.n : Nat) : Int)) (
 .leaf false) (
 .sum (ref01_Ints_l4 a b (0 : Int)) (fun _ =>
 .leaf true) (fun _ => .leaf false))
noncomputable def ref01_Ints_m : FnM := flM ((Sq Int) × (Sq Int)) (Bool) (fun p => ([sqA 1 (eI .i64) p.1, sqA 1 (eI .i64) p.2], [])) (fun p => ref01_Ints_t p.1 p.2) (fun r => .bool r) (fun _ => rfl)
noncomputable def ref01_Ints_env : Env := envM [] [(4, [0, 1, 5], [4])] [(4, ref01_Ints_l4_m.c)] [] [(4, [])] 0
noncomputable def ref01_Ints_e : Env := { ref01_Ints_env with nt := 26 }
theorem ref01_Ints_l4_tells : LoopTells ref01_Ints_e (loopOf 4 Try.f7) ref01_Ints_l4_m.c := ref01_Ints_l4_m.tells 512 (fun _ => by kernel_rfl) (fun _ _ _ _ => by kernel_rfl) (fun _ _ _ _ => by kernel_rfl) fun R f v N K => by kernel_rfl
theorem ref01_Ints_tells : Tells Try.prog 7 ref01_Ints_m.c := ref01_Ints_m.tells Try.func7 (show ∀ p, arun ref01_Ints_env Try.f7 (ref01_Ints_m.enc p).1 (ref01_Ints_m.enc p).2 = _ from fun p => by kernel_rfl) (loopsL [loopOf 4 Try.f7] (by kernel_rfl) ⟨lpT (by kernel_rfl) ref01_Ints_l4_tells, trivial⟩) .nil
noncomputable def ref01_Ints (a b : Sq Int) : Option (Bool) := ref01_Ints_m.val (a, b)
theorem ref01_Ints_eq (a b : Sq Int) : ref01_Ints a b = (ref01_Ints_t a b).get := ref01_Ints_m.val_eq (fun x => (sqD dI (gd x.1 0), sqD dI (gd x.1 1))) (fun p => by kernel_rfl) (a, b)

/-! minecontrol/plan.within -/
noncomputable def plan_within_t (n low high : Int) : DT (Bool) :=
 .ite (decide (low ≤ n)) (.leaf (decide (n ≤ high))) (.leaf false)
noncomputable def plan_within_m : FnM := flM (Int × Int × Int) (Bool) (fun p => ([.int .i64 p.1, .int .i64 p.2.1, .int .i64 p.2.2], [])) (fun p => plan_within_t p.1 p.2.1 p.2.2) (fun r => .bool r) (fun _ => rfl)
noncomputable def plan_within_env : Env := envM [] [] [] [] [] 0
theorem plan_within_tells : Tells Try.prog 32 plan_within_m.c := plan_within_m.tells Try.func32 (show ∀ p, arun plan_within_env Try.f32 (plan_within_m.enc p).1 (plan_within_m.enc p).2 = _ from fun p => by kernel_rfl) noLoops .nil
noncomputable def plan_within (n low high : Int) : Option (Bool) := plan_within_m.val (n, low, high)
theorem plan_within_eq (n low high : Int) : plan_within n low high = (plan_within_t n low high).get := plan_within_m.val_eq (fun x => (intA (gd x.1 0), intA (gd x.1 1), intA (gd x.1 2))) (fun p => by kernel_rfl) (n, low, high)

/-! minecontrol/plan.hasRoad -/
noncomputable def plan_hasRoad_t (m : SMine) (road : Int) : DT (Bool) :=
 .bind (plan_within road (0 : Int) (wr (((m.Roads.n : Nat) : Int) - (1 : Int)))) fun z0 =>
 .leaf z0
noncomputable def plan_hasRoad_m : FnM := flM (SMine × Int) (Bool) (fun p => ([.agg (SMine.enc p.1), .int .i64 p.2], [])) (fun p => plan_hasRoad_t p.1 p.2) (fun r => .bool r) (fun _ => rfl)
noncomputable def plan_hasRoad_env : Env := envM [(32, plan_within_m.c)] [] [] [] [] 0
theorem plan_hasRoad_tells : Tells Try.prog 22 plan_hasRoad_m.c := plan_hasRoad_m.tells Try.func22 (show ∀ p, arun plan_hasRoad_env Try.f22 (plan_hasRoad_m.enc p).1 (plan_hasRoad_m.enc p).2 = _ from fun p => by kernel_rfl) noLoops (.cons plan_within_tells .nil)
noncomputable def plan_hasRoad (m : SMine) (road : Int) : Option (Bool) := plan_hasRoad_m.val (m, road)
theorem plan_hasRoad_eq (m : SMine) (road : Int) : plan_hasRoad m road = (plan_hasRoad_t m road).get := plan_hasRoad_m.val_eq (fun x => (SMine.dec (aggL (gd x.1 0)), intA (gd x.1 1))) (fun p => by kernel_rfl) (m, road)

/-! minecontrol/plan.Other -/
noncomputable def plan_Other_t (m : SMine) (road place : Int) : DT (Int) :=
 .bind (plan_hasRoad m road) fun z0 =>
 .ite (!z0) (
 .leaf (-1 : Int)) (
 .ite (decide ((0 : Int) ≤ road ∧ road < ((m.Roads.n : Nat) : Int))) (
 .ite (place == (m.Roads.f (Int.toNat road)).From) (
 .leaf (m.Roads.f (Int.toNat road)).To) (
 .ite (place == (m.Roads.f (Int.toNat road)).To) (.leaf (m.Roads.f (Int.toNat road)).From) (.leaf (-1 : Int)))) (
 .fail))
noncomputable def plan_Other_m : FnM := flM (SMine × Int × Int) (Int) (fun p => ([.agg (SMine.enc p.1), .int .i64 p.2.1, .int .i64 p.2.2], [])) (fun p => plan_Other_t p.1 p.2.1 p.2.2) (fun r => .int .i64 r) (fun _ => rfl)
noncomputable def plan_Other_env : Env := envM [(22, plan_hasRoad_m.c)] [] [] [] [] 0
theorem plan_Other_tells : Tells Try.prog 10 plan_Other_m.c := plan_Other_m.tells Try.func10 (show ∀ p, arun plan_Other_env Try.f10 (plan_Other_m.enc p).1 (plan_Other_m.enc p).2 = _ from fun p => by kernel_rfl) noLoops (.cons plan_hasRoad_tells .nil)
noncomputable def plan_Other (m : SMine) (road place : Int) : Option (Int) := plan_Other_m.val (m, road, place)
theorem plan_Other_eq (m : SMine) (road place : Int) : plan_Other m road place = (plan_Other_t m road place).get := plan_Other_m.val_eq (fun x => (SMine.dec (aggL (gd x.1 0)), intA (gd x.1 1), intA (gd x.1 2))) (fun p => by kernel_rfl) (m, road, place)

/-! minecontrol/minecontrolref01.Other -/
noncomputable def ref01_Other_t (m : SMine) (road place : Int) : DT (Int) :=
 .ite (decide (road < (0 : Int))) (
 .leaf (-1 : Int)) (
 .ite (decide (road ≥ ((m.Roads.n : Nat) : Int))) (
 .leaf (-1 : Int)) (
 .ite (decide ((0 : Int) ≤ road ∧ road < ((m.Roads.n : Nat) : Int))) (
 .ite ((m.Roads.f (Int.toNat road)).From == place) (
 .ite (decide ((0 : Int) ≤ road ∧ road < ((m.Roads.n : Nat) : Int))) (.leaf (m.Roads.f (Int.toNat road)).To) (.fail)) (
 .ite (decide ((0 : Int) ≤ road ∧ road < ((m.Roads.n : Nat) : Int))) (
 .ite ((m.Roads.f (Int.toNat road)).To == place) (
 .ite (decide ((0 : Int) ≤ road ∧ road < ((m.Roads.n : Nat) : Int))) (.leaf (m.Roads.f (Int.toNat road)).From) (.fail)) (
 .leaf (-1 : Int))) (
 .fail))) (
 .fail)))
noncomputable def ref01_Other_m : FnM := flM (SMine × Int × Int) (Int) (fun p => ([.agg (SMine.enc p.1), .int .i64 p.2.1, .int .i64 p.2.2], [])) (fun p => ref01_Other_t p.1 p.2.1 p.2.2) (fun r => .int .i64 r) (fun _ => rfl)
noncomputable def ref01_Other_env : Env := envM [] [] [] [] [] 0
theorem ref01_Other_tells : Tells Try.prog 11 ref01_Other_m.c := ref01_Other_m.tells Try.func11 (show ∀ p, arun ref01_Other_env Try.f11 (ref01_Other_m.enc p).1 (ref01_Other_m.enc p).2 = _ from fun p => by kernel_rfl) noLoops .nil
noncomputable def ref01_Other (m : SMine) (road place : Int) : Option (Int) := ref01_Other_m.val (m, road, place)
theorem ref01_Other_eq (m : SMine) (road place : Int) : ref01_Other m road place = (ref01_Other_t m road place).get := ref01_Other_m.val_eq (fun x => (SMine.dec (aggL (gd x.1 0)), intA (gd x.1 1), intA (gd x.1 2))) (fun p => by kernel_rfl) (m, road, place)

/-! minecontrol/plan.spans -/
noncomputable def plan_spans_t (s : SSpan) (low high : Int) : DT (Bool) :=
 .ite (decide (low ≤ s.Low)) (
 .ite (decide (s.Low ≤ s.High)) (.leaf (decide (s.High ≤ high))) (.leaf false)) (
 .leaf false)
noncomputable def plan_spans_m : FnM := flM (SSpan × Int × Int) (Bool) (fun p => ([.agg (SSpan.enc p.1), .int .i64 p.2.1, .int .i64 p.2.2], [])) (fun p => plan_spans_t p.1 p.2.1 p.2.2) (fun r => .bool r) (fun _ => rfl)
noncomputable def plan_spans_env : Env := envM [] [] [] [] [] 0
theorem plan_spans_tells : Tells Try.prog 59 plan_spans_m.c := plan_spans_m.tells Try.func59 (show ∀ p, arun plan_spans_env Try.f59 (plan_spans_m.enc p).1 (plan_spans_m.enc p).2 = _ from fun p => by kernel_rfl) noLoops .nil
noncomputable def plan_spans (s : SSpan) (low high : Int) : Option (Bool) := plan_spans_m.val (s, low, high)
theorem plan_spans_eq (s : SSpan) (low high : Int) : plan_spans s low high = (plan_spans_t s low high).get := plan_spans_m.val_eq (fun x => (SSpan.dec (aggL (gd x.1 0)), intA (gd x.1 1), intA (gd x.1 2))) (fun p => by kernel_rfl) (s, low, high)

/-! minecontrol/plan.checkRoad -/
noncomputable def plan_checkRoad_t (r : SRoad) (places : Int) : DT (Int) :=
 .bind (plan_within r.From (0 : Int) (wr (places - (1 : Int)))) fun z0 =>
 .ite (!z0) (
 .leaf (4 : Int)) (
 .bind (plan_within r.To (0 : Int) (wr (places - (1 : Int)))) fun z1 =>
 .ite (!z1) (
 .leaf (4 : Int)) (
 .ite (r.From == r.To) (
 .leaf (4 : Int)) (
 .bind (plan_within r.Length (1 : Int) (100000 : Int)) fun z2 =>
 .ite (!z2) (
 .leaf (1 : Int)) (
 .bind (plan_within r.Area (1 : Int) (1000 : Int)) fun z3 =>
 .ite (!z3) (
 .leaf (1 : Int)) (
 .bind (plan_spans r.Rest (1 : Int) (262144 : Int)) fun z4 =>
 .ite (!z4) (
 .leaf (1 : Int)) (
 .bind (plan_spans r.Lift (-2199023255552 : Int) (2199023255552 : Int)) fun z5 =>
 .ite (!z5) (.leaf (1 : Int)) (.leaf (0 : Int))))))))
noncomputable def plan_checkRoad_m : FnM := flM (SRoad × Int) (Int) (fun p => ([.agg (SRoad.enc p.1), .int .i64 p.2], [])) (fun p => plan_checkRoad_t p.1 p.2) (fun r => .int .i64 r) (fun _ => rfl)
noncomputable def plan_checkRoad_env : Env := envM [(32, plan_within_m.c), (59, plan_spans_m.c)] [] [] [] [] 0
theorem plan_checkRoad_tells : Tells Try.prog 51 plan_checkRoad_m.c := plan_checkRoad_m.tells Try.func51 (show ∀ p, arun plan_checkRoad_env Try.f51 (plan_checkRoad_m.enc p).1 (plan_checkRoad_m.enc p).2 = _ from fun p => by kernel_rfl) noLoops (.cons plan_within_tells (.cons plan_spans_tells .nil))
noncomputable def plan_checkRoad (r : SRoad) (places : Int) : Option (Int) := plan_checkRoad_m.val (r, places)
theorem plan_checkRoad_eq (r : SRoad) (places : Int) : plan_checkRoad r places = (plan_checkRoad_t r places).get := plan_checkRoad_m.val_eq (fun x => (SRoad.dec (aggL (gd x.1 0)), intA (gd x.1 1))) (fun p => by kernel_rfl) (r, places)

/-! minecontrol/plan.Check -/
noncomputable def plan_Check_l4_step (u4_0 : Sq SPlace) (_u4_2 : Sq SRoad) (u4_3 : Int) : DT (LR (Int) (Unit) (Unit)) :=
 .ite (decide (u4_3 < ((u4_0.n : Nat) : Int))) (
 .ite (decide ((0 : Int) ≤ u4_3 ∧ u4_3 < ((u4_0.n : Nat) : Int))) (
 .bind (plan_within (u4_0.f (Int.toNat u4_3)).Height (-10000 : Int) (10000 : Int)) fun z0 =>
 .ite (!z0) (
 .leaf (.r ())) (
 .leaf (.next (wr (u4_3 + (1 : Int)))))) (
 .fail)) (
 .leaf (.l ()))
noncomputable def plan_Check_l4_m : LpM := ⟨(Sq SPlace) × (Sq SRoad), Int, Unit, Unit, fun p => ⟨[(1, .ptr 0 0), (19, sqA 2 SPlace.enc p.1.1), (20, .int .i64 ((p.1.1.n : Nat) : Int)), (21, .int .i64 p.2)], [(0, .var [sqA 2 SPlace.enc p.1.1, sqA 10 SRoad.enc p.1.2])], 1088⟩, fun f v => plan_Check_l4_step f.1 f.2 v, false, (.exit 0), (fun x _ => ⟨[(1, .ptr 0 0), (2, .undef)], [(0, blkS x 0)], 1088⟩), .ret, (fun x _ => ⟨[(1, .ptr 0 0), (2, .int .i64 (1 : Int))], [(0, blkS x 0)], 1088⟩), c1, c1k⟩
noncomputable def plan_Check_l4 (u4_0 : Sq SPlace) (u4_2 : Sq SRoad) (u4_3 : Int) : Option ((Unit) ⊕ (Unit)) := plan_Check_l4_m.val ((u4_0, u4_2), u4_3)
theorem plan_Check_l4_eq (u4_0 : Sq SPlace) (u4_2 : Sq SRoad) (u4_3 : Int) : plan_Check_l4 u4_0 u4_2 u4_3 = fixO (fun v : Int => plan_Check_l4_step u4_0 u4_2 v) u4_3 := plan_Check_l4_m.val_eq (fun x => ((sqD SPlace.dec (aget x.tm 19), sqD SRoad.dec (cellS x 0 1)), intA (aget x.tm 21))) (fun p => by kernel_rfl) ((u4_0, u4_2), u4_3)
noncomputable def plan_Check_l10_step (u10_0 : Sq SRoad) (u10_2 : Sq SPlace) (u10_3 : Int) : DT (LR (Int) (Unit) (Int)) :=
 .ite (decide (u10_3 < ((u10_0.n : Nat) : Int))) (
 .ite (decide ((0 : Int) ≤ u10_3 ∧ u10_3 < ((u10_0.n : Nat) : Int))) (
 .bind (plan_checkRoad (u10_0.f (Int.toNat u10_3)) ((u10_2.n : Nat) : Int)) fun z1 =>
 .ite (z1 != (0 : Int)) (
 .leaf (.r z1)) (
 .leaf (.next (wr (u10_3 + (1 : Int)))))) (
 .fail)) (
 .leaf (.l ()))
noncomputable def plan_Check_l10_m : LpM := ⟨(Sq SRoad) × (Sq SPlace), Int, Unit, Int, fun p => ⟨[(1, .ptr 0 0), (31, sqA 10 SRoad.enc p.1.1), (32, .int .i64 ((p.1.1.n : Nat) : Int)), (33, .int .i64 p.2)], [(0, .var [sqA 2 SPlace.enc p.1.2, sqA 10 SRoad.enc p.1.1])], 1344⟩, fun f v => plan_Check_l10_step f.1 f.2 v, false, (.exit 2), (fun x _ => ⟨[(2, .undef)], [(0, blkS x 0)], 1344⟩), .ret, (fun x a => ⟨[(2, .int .i64 a)], [(0, blkS x 0)], 1344⟩), c1, c1k⟩
noncomputable def plan_Check_l10 (u10_0 : Sq SRoad) (u10_2 : Sq SPlace) (u10_3 : Int) : Option ((Unit) ⊕ (Int)) := plan_Check_l10_m.val ((u10_0, u10_2), u10_3)
theorem plan_Check_l10_eq (u10_0 : Sq SRoad) (u10_2 : Sq SPlace) (u10_3 : Int) : plan_Check_l10 u10_0 u10_2 u10_3 = fixO (fun v : Int => plan_Check_l10_step u10_0 u10_2 v) u10_3 := plan_Check_l10_m.val_eq (fun x => ((sqD SRoad.dec (aget x.tm 31), sqD SPlace.dec (cellS x 0 0)), intA (aget x.tm 33))) (fun p => by kernel_rfl) ((u10_0, u10_2), u10_3)
noncomputable def plan_Check_t (m : SMine) : DT (Int) :=
 .ite (decide (((m.Places.n : Nat) : Int) > (64 : Int))) (
 .leaf (2 : Int)) (
 .ite (decide (((m.Roads.n : Nat) : Int) > (128 : Int))) (
 .leaf (2 : Int)) (
 .sum (plan_Check_l4 m.Places m.Roads (0 : Int)) (fun _ =>
 .sum (plan_Check_l10 m.Roads m.Places (0 : Int)) (fun _ =>
 .leaf (0 : Int)) (fun y0 => .leaf y0)) (fun _ => .leaf (1 : Int))))
noncomputable def plan_Check_m : FnM := flM (SMine) (Int) (fun p => ([.agg (SMine.enc p)], [])) (fun p => plan_Check_t p) (fun r => .int .i64 r) (fun _ => rfl)
noncomputable def plan_Check_env : Env := envM [(32, plan_within_m.c), (51, plan_checkRoad_m.c)] [(4, [1, 19, 20, 21], [1, 2]), (10, [1, 31, 32, 33], [2])] [(4, plan_Check_l4_m.c), (10, plan_Check_l10_m.c)] [] [(4, [0]), (10, [0])] 0
noncomputable def plan_Check_e : Env := { plan_Check_env with nt := 46 }
theorem plan_Check_l4_tells : LoopTells plan_Check_e (loopOf 4 Try.f37) plan_Check_l4_m.c := plan_Check_l4_m.tells 1088 (fun _ => by kernel_rfl) (fun _ _ _ _ => by kernel_rfl) (fun _ _ _ _ => by kernel_rfl) fun R f v N K => by kernel_rfl
theorem plan_Check_l10_tells : LoopTells plan_Check_e (loopOf 10 Try.f37) plan_Check_l10_m.c := plan_Check_l10_m.tells 1344 (fun _ => by kernel_rfl) (fun _ _ _ _ => by kernel_rfl) (fun _ _ _ _ => by kernel_rfl) fun R f v N K => by kernel_rfl
theorem plan_Check_tells : Tells Try.prog 37 plan_Check_m.c := plan_Check_m.tells Try.func37 (show ∀ p, arun plan_Check_env Try.f37 (plan_Check_m.enc p).1 (plan_Check_m.enc p).2 = _ from fun p => by kernel_rfl) (loopsL [loopOf 4 Try.f37, loopOf 10 Try.f37] (by kernel_rfl) ⟨lpT (by kernel_rfl) plan_Check_l4_tells, ⟨lpT (by kernel_rfl) plan_Check_l10_tells, trivial⟩⟩) (.cons plan_within_tells (.cons plan_checkRoad_tells .nil))
noncomputable def plan_Check (m : SMine) : Option (Int) := plan_Check_m.val m
theorem plan_Check_eq (m : SMine) : plan_Check m = (plan_Check_t m).get := plan_Check_m.val_eq (fun x => SMine.dec (aggL (gd x.1 0))) (fun p => by kernel_rfl) m

/-! minecontrol/plan.Valid -/
noncomputable def plan_Valid_t (m : SMine) : DT (Bool) :=
 .bind (plan_Check m) fun z0 =>
 .leaf (z0 == (0 : Int))
noncomputable def plan_Valid_m : FnM := flM (SMine) (Bool) (fun p => ([.agg (SMine.enc p)], [])) (fun p => plan_Valid_t p) (fun r => .bool r) (fun _ => rfl)
noncomputable def plan_Valid_env : Env := envM [(37, plan_Check_m.c)] [] [] [] [] 0
theorem plan_Valid_tells : Tells Try.prog 28 plan_Valid_m.c := plan_Valid_m.tells Try.func28 (show ∀ p, arun plan_Valid_env Try.f28 (plan_Valid_m.enc p).1 (plan_Valid_m.enc p).2 = _ from fun p => by kernel_rfl) noLoops (.cons plan_Check_tells .nil)
noncomputable def plan_Valid (m : SMine) : Option (Bool) := plan_Valid_m.val m
theorem plan_Valid_eq (m : SMine) : plan_Valid m = (plan_Valid_t m).get := plan_Valid_m.val_eq (fun x => SMine.dec (aggL (gd x.1 0))) (fun p => by kernel_rfl) m

/-! minecontrol/minecontrolref01.Span -/
noncomputable def ref01_Span_t (s : SSpan) (low high : Int) : DT (Bool) :=
 .ite (decide (low ≤ s.Low)) (
 .ite (decide (s.Low ≤ s.High)) (.leaf (decide (s.High ≤ high))) (.leaf false)) (
 .leaf false)
noncomputable def ref01_Span_m : FnM := flM (SSpan × Int × Int) (Bool) (fun p => ([.agg (SSpan.enc p.1), .int .i64 p.2.1, .int .i64 p.2.2], [])) (fun p => ref01_Span_t p.1 p.2.1 p.2.2) (fun r => .bool r) (fun _ => rfl)
noncomputable def ref01_Span_env : Env := envM [] [] [] [] [] 0
theorem ref01_Span_tells : Tells Try.prog 36 ref01_Span_m.c := ref01_Span_m.tells Try.func36 (show ∀ p, arun ref01_Span_env Try.f36 (ref01_Span_m.enc p).1 (ref01_Span_m.enc p).2 = _ from fun p => by kernel_rfl) noLoops .nil
noncomputable def ref01_Span (s : SSpan) (low high : Int) : Option (Bool) := ref01_Span_m.val (s, low, high)
theorem ref01_Span_eq (s : SSpan) (low high : Int) : ref01_Span s low high = (ref01_Span_t s low high).get := ref01_Span_m.val_eq (fun x => (SSpan.dec (aggL (gd x.1 0)), intA (gd x.1 1), intA (gd x.1 2))) (fun p => by kernel_rfl) (s, low, high)

/-! minecontrol/minecontrolref01.Check -/
noncomputable def ref01_Check_l4_step (u4_0 : Sq SPlace) (_u4_1 : Sq SRoad) (u4_2 : Int) : DT (LR (Int) (Unit) (Unit)) :=
 .ite (decide (u4_2 < ((u4_0.n : Nat) : Int))) (
 .ite (decide ((0 : Int) ≤ u4_2 ∧ u4_2 < ((u4_0.n : Nat) : Int))) (
 .ite (decide ((u4_0.f (Int.toNat u4_2)).Height < (-10000 : Int))) (
 .leaf (.r ())) (
 .ite (decide ((u4_0.f (Int.toNat u4_2)).Height > (10000 : Int))) (
 .leaf (.r ())) (
 .leaf (.next (wr (u4_2 + (1 : Int))))))) (
 .fail)) (
 .leaf (.l ()))
noncomputable def ref01_Check_l4_m : LpM := ⟨(Sq SPlace) × (Sq SRoad), Int, Unit, Unit, fun p => ⟨[(1, .ptr 0 0), (3, .int .i64 p.2)], [(0, .var [sqA 2 SPlace.enc p.1.1, sqA 10 SRoad.enc p.1.2])], 896⟩, fun f v => ref01_Check_l4_step f.1 f.2 v, false, (.exit 0), (fun x _ => ⟨[(1, .ptr 0 0), (2, .undef)], [(0, blkS x 0)], 896⟩), .ret, (fun x _ => ⟨[(1, .ptr 0 0), (2, .int .i64 (1 : Int))], [(0, blkS x 0)], 896⟩), c1, c1k⟩
noncomputable def ref01_Check_l4 (u4_0 : Sq SPlace) (u4_1 : Sq SRoad) (u4_2 : Int) : Option ((Unit) ⊕ (Unit)) := ref01_Check_l4_m.val ((u4_0, u4_1), u4_2)
theorem ref01_Check_l4_eq (u4_0 : Sq SPlace) (u4_1 : Sq SRoad) (u4_2 : Int) : ref01_Check_l4 u4_0 u4_1 u4_2 = fixO (fun v : Int => ref01_Check_l4_step u4_0 u4_1 v) u4_2 := ref01_Check_l4_m.val_eq (fun x => ((sqD SPlace.dec (cellS x 0 0), sqD SRoad.dec (cellS x 0 1)), intA (aget x.tm 3))) (fun p => by kernel_rfl) ((u4_0, u4_1), u4_2)
noncomputable def ref01_Check_l10_step (u10_0 : Sq SPlace) (u10_1 : Sq SRoad) (u10_2 : Int) : DT (LR (Int) (Unit) (Int)) :=
 .ite (decide (u10_2 < ((u10_1.n : Nat) : Int))) (
 .ite (decide ((0 : Int) ≤ u10_2 ∧ u10_2 < ((u10_1.n : Nat) : Int))) (
 .ite (decide ((u10_1.f (Int.toNat u10_2)).From < (0 : Int))) (
 .leaf (.r (4 : Int))) (
 .ite (decide ((u10_1.f (Int.toNat u10_2)).From ≥ ((u10_0.n : Nat) : Int))) (
 .leaf (.r (4 : Int))) (
 .ite (decide ((u10_1.f (Int.toNat u10_2)).To < (0 : Int))) (
 .leaf (.r (4 : Int))) (
 .ite (decide ((u10_1.f (Int.toNat u10_2)).To ≥ ((u10_0.n : Nat) : Int))) (
 .leaf (.r (4 : Int))) (
 .ite ((u10_1.f (Int.toNat u10_2)).From == (u10_1.f (Int.toNat u10_2)).To) (
 .leaf (.r (4 : Int))) (
 .ite (decide ((u10_1.f (Int.toNat u10_2)).Length < (1 : Int))) (
 .leaf (.r (1 : Int))) (
 .ite (decide ((u10_1.f (Int.toNat u10_2)).Length > (100000 : Int))) (
 .leaf (.r (1 : Int))) (
 .ite (decide ((u10_1.f (Int.toNat u10_2)).Area < (1 : Int))) (
 .leaf (.r (1 : Int))) (
 .ite (decide ((u10_1.f (Int.toNat u10_2)).Area > (1000 : Int))) (
 .leaf (.r (1 : Int))) (
 .bind (ref01_Span (u10_1.f (Int.toNat u10_2)).Rest (1 : Int) (262144 : Int)) fun z0 =>
 .ite (!z0) (
 .leaf (.r (1 : Int))) (
 .bind (ref01_Span (u10_1.f (Int.toNat u10_2)).Lift (-2199023255552 : Int) (2199023255552 : Int)) fun z1 =>
 .ite (!z1) (
 .leaf (.r (1 : Int))) (
 .leaf (.next (wr (u10_2 + (1 : Int)))))))))))))))) (
 .fail)) (
 .leaf (.l ()))
noncomputable def ref01_Check_l10_m : LpM := ⟨(Sq SPlace) × (Sq SRoad), Int, Unit, Int, fun p => ⟨[(1, .ptr 0 0), (5, .int .i64 p.2)], [(0, .var [sqA 2 SPlace.enc p.1.1, sqA 10 SRoad.enc p.1.2])], 960⟩, fun f v => ref01_Check_l10_step f.1 f.2 v, false, (.exit 2), (fun x _ => ⟨[(2, .undef)], [(0, blkS x 0)], 960⟩), .ret, (fun x a => ⟨[(2, .int .i64 a)], [(0, blkS x 0)], 960⟩), c1, c1k⟩
noncomputable def ref01_Check_l10 (u10_0 : Sq SPlace) (u10_1 : Sq SRoad) (u10_2 : Int) : Option ((Unit) ⊕ (Int)) := ref01_Check_l10_m.val ((u10_0, u10_1), u10_2)
theorem ref01_Check_l10_eq (u10_0 : Sq SPlace) (u10_1 : Sq SRoad) (u10_2 : Int) : ref01_Check_l10 u10_0 u10_1 u10_2 = fixO (fun v : Int => ref01_Check_l10_step u10_0 u10_1 v) u10_2 := ref01_Check_l10_m.val_eq (fun x => ((sqD SPlace.dec (cellS x 0 0), sqD SRoad.dec (cellS x 0 1)), intA (aget x.tm 5))) (fun p => by kernel_rfl) ((u10_0, u10_1), u10_2)
noncomputable def ref01_Check_t (m : SMine) : DT (Int) :=
 .ite (decide (((m.Places.n : Nat) : Int) > (64 : Int))) (
 .leaf (2 : Int)) (
 .ite (decide (((m.Roads.n : Nat) : Int) > (128 : Int))) (
 .leaf (2 : Int)) (
 .sum (ref01_Check_l4 m.Places m.Roads (0 : Int)) (fun _ =>
 .sum (ref01_Check_l10 m.Places m.Roads (0 : Int)) (fun _ =>
 .leaf (0 : Int)) (fun y0 => .leaf y0)) (fun _ => .leaf (1 : Int))))
noncomputable def ref01_Check_m : FnM := flM (SMine) (Int) (fun p => ([.agg (SMine.enc p)], [])) (fun p => ref01_Check_t p) (fun r => .int .i64 r) (fun _ => rfl)
noncomputable def ref01_Check_env : Env := envM [(36, ref01_Span_m.c)] [(4, [1, 3], [1, 2]), (10, [1, 5], [2])] [(4, ref01_Check_l4_m.c), (10, ref01_Check_l10_m.c)] [] [(4, [0]), (10, [0])] 0
noncomputable def ref01_Check_e : Env := { ref01_Check_env with nt := 109 }
theorem ref01_Check_l4_tells : LoopTells ref01_Check_e (loopOf 4 Try.f26) ref01_Check_l4_m.c := ref01_Check_l4_m.tells 896 (fun _ => by kernel_rfl) (fun _ _ _ _ => by kernel_rfl) (fun _ _ _ _ => by kernel_rfl) fun R f v N K => by kernel_rfl
theorem ref01_Check_l10_tells : LoopTells ref01_Check_e (loopOf 10 Try.f26) ref01_Check_l10_m.c := ref01_Check_l10_m.tells 960 (fun _ => by kernel_rfl) (fun _ _ _ _ => by kernel_rfl) (fun _ _ _ _ => by kernel_rfl) fun R f v N K => by kernel_rfl
theorem ref01_Check_tells : Tells Try.prog 26 ref01_Check_m.c := ref01_Check_m.tells Try.func26 (show ∀ p, arun ref01_Check_env Try.f26 (ref01_Check_m.enc p).1 (ref01_Check_m.enc p).2 = _ from fun p => by kernel_rfl) (loopsL [loopOf 4 Try.f26, loopOf 10 Try.f26] (by kernel_rfl) ⟨lpT (by kernel_rfl) ref01_Check_l4_tells, ⟨lpT (by kernel_rfl) ref01_Check_l10_tells, trivial⟩⟩) (.cons ref01_Span_tells .nil)
noncomputable def ref01_Check (m : SMine) : Option (Int) := ref01_Check_m.val m
theorem ref01_Check_eq (m : SMine) : ref01_Check m = (ref01_Check_t m).get := ref01_Check_m.val_eq (fun x => SMine.dec (aggL (gd x.1 0))) (fun p => by kernel_rfl) m

/-! minecontrol/minecontrolref01.From -/
noncomputable def ref01_From_l6_step (_u6_0 : Sq SPlace) (u6_1 : Sq SRoad) (u6_2 : Sq Bool) (u6_3 : Bool) (u6_4 : Int) : DT (LR ((Sq Bool) × Bool × Int) (Bool × (Sq Bool)) (Unit)) :=
 .ite (decide (u6_4 < ((u6_1.n : Nat) : Int))) (
 .ite (decide ((0 : Int) ≤ u6_4 ∧ u6_4 < ((u6_1.n : Nat) : Int))) (
 .ite (!(u6_1.f (Int.toNat u6_4)).Closed) (
 .ite (decide ((0 : Int) ≤ (u6_1.f (Int.toNat u6_4)).From ∧ (u6_1.f (Int.toNat u6_4)).From < ((u6_2.n : Nat) : Int))) (
 .ite (decide ((0 : Int) ≤ (u6_1.f (Int.toNat u6_4)).To ∧ (u6_1.f (Int.toNat u6_4)).To < ((u6_2.n : Nat) : Int))) (
 .ite (!((u6_2.f (Int.toNat (u6_1.f (Int.toNat u6_4)).From)) == (u6_2.f (Int.toNat (u6_1.f (Int.toNat u6_4)).To)))) (
 .ite (decide ((0 : Int) ≤ (u6_1.f (Int.toNat u6_4)).From ∧ (u6_1.f (Int.toNat u6_4)).From < ((u6_2.n : Nat) : Int))) (
 .ite (decide ((0 : Int) ≤ (u6_1.f (Int.toNat u6_4)).To ∧ (u6_1.f (Int.toNat u6_4)).To < ((u6_2.n : Nat) : Int))) (
 .leaf (.next ((Sq.mk u6_2.n (fun k0 => (cond (Nat.beq k0 (Int.toNat (u6_1.f (Int.toNat u6_4)).To)) true (cond (Nat.beq k0 (Int.toNat (u6_1.f (Int.toNat u6_4)).From)) true (u6_2.f k0))))), true, (wr (u6_4 + (1 : Int)))))) (
 .fail)) (
 .fail)) (
 .leaf (.next (u6_2, u6_3, (wr (u6_4 + (1 : Int))))))) (
 .fail)) (
 .fail)) (
 .leaf (.next (u6_2, u6_3, (wr (u6_4 + (1 : Int))))))) (
 .fail)) (
 .leaf (.l (u6_3, u6_2)))
noncomputable def ref01_From_l6_m : LpM := ⟨(Sq SPlace) × (Sq SRoad), (Sq Bool) × Bool × Int, Bool × (Sq Bool), Unit, fun p => ⟨[(2, .ptr 0 0), (5, .own 192 0), (6, .bool p.2.2.1), (7, .int .i64 p.2.2.2)], [(0, .var [sqA 2 SPlace.enc p.1.1, sqA 10 SRoad.enc p.1.2]), (192, rowA 0 1 4 eO p.2.1)], 576⟩, fun f v => ref01_From_l6_step f.1 f.2 v.1 v.2.1 v.2.2, true, (.exit 2), (fun x a => ⟨[(2, .ptr 0 0), (5, .own 192 0), (6, .bool a.1)], [(0, blkS x 0), (192, rowA 0 1 4 eO a.2)], 576⟩), .ret, (fun _ _ => ⟨[], [], 0⟩), c1, c1k⟩
noncomputable def ref01_From_l6 (u6_0 : Sq SPlace) (u6_1 : Sq SRoad) (u6_2 : Sq Bool) (u6_3 : Bool) (u6_4 : Int) : Option ((Bool × (Sq Bool)) ⊕ (Unit)) := ref01_From_l6_m.val ((u6_0, u6_1), (u6_2, u6_3, u6_4))
theorem ref01_From_l6_eq (u6_0 : Sq SPlace) (u6_1 : Sq SRoad) (u6_2 : Sq Bool) (u6_3 : Bool) (u6_4 : Int) : ref01_From_l6 u6_0 u6_1 u6_2 u6_3 u6_4 = fixO (fun v : (Sq Bool) × Bool × Int => ref01_From_l6_step u6_0 u6_1 v.1 v.2.1 v.2.2) (u6_2, u6_3, u6_4) := ref01_From_l6_m.val_eq (fun x => ((sqD SPlace.dec (cellS x 0 0), sqD SRoad.dec (cellS x 0 1)), (sqB dO (blkS x 192), boolA (aget x.tm 6), intA (aget x.tm 7)))) (fun p => by kernel_rfl) ((u6_0, u6_1), (u6_2, u6_3, u6_4))
noncomputable def ref01_From_l3_step (u3_0 : Sq SPlace) (u3_1 : Sq SRoad) (u3_2 : Sq Bool) (u3_3 : Bool) : DT (LR ((Sq Bool) × Bool) ((Sq Bool)) (Unit)) :=
 .ite u3_3 (
 .sum (ref01_From_l6 u3_0 u3_1 u3_2 false (0 : Int)) (fun y0 =>
 .leaf (.next (y0.2, y0.1))) (fun _ => .fail)) (
 .leaf (.l u3_2))
noncomputable def ref01_From_l3_m : LpM := ⟨(Sq SPlace) × (Sq SRoad), (Sq Bool) × Bool, (Sq Bool), Unit, fun p => ⟨[(2, .ptr 0 0), (5, .own 192 0), (6, .bool p.2.2)], [(0, .var [sqA 2 SPlace.enc p.1.1, sqA 10 SRoad.enc p.1.2]), (192, rowA 0 1 4 eO p.2.1)], 384⟩, fun f v => ref01_From_l3_step f.1 f.2 v.1 v.2, true, (.exit 0), (fun x a => ⟨[(5, .own 192 0)], [(0, blkS x 0), (192, rowA 0 1 4 eO a)], 384⟩), .ret, (fun _ _ => ⟨[], [], 0⟩), c1, c1k⟩
noncomputable def ref01_From_l3 (u3_0 : Sq SPlace) (u3_1 : Sq SRoad) (u3_2 : Sq Bool) (u3_3 : Bool) : Option (((Sq Bool)) ⊕ (Unit)) := ref01_From_l3_m.val ((u3_0, u3_1), (u3_2, u3_3))
theorem ref01_From_l3_eq (u3_0 : Sq SPlace) (u3_1 : Sq SRoad) (u3_2 : Sq Bool) (u3_3 : Bool) : ref01_From_l3 u3_0 u3_1 u3_2 u3_3 = fixO (fun v : (Sq Bool) × Bool => ref01_From_l3_step u3_0 u3_1 v.1 v.2) (u3_2, u3_3) := ref01_From_l3_m.val_eq (fun x => ((sqD SPlace.dec (cellS x 0 0), sqD SRoad.dec (cellS x 0 1)), (sqB dO (blkS x 192), boolA (aget x.tm 6)))) (fun p => by kernel_rfl) ((u3_0, u3_1), (u3_2, u3_3))
noncomputable def ref01_From_t (m : SMine) (seen : Sq Bool) : DT ((Sq Bool)) :=
 .ite (decide (seen.n * 1 ≤ 140737488355328 ∧ seen.n ≤ 1099511627776)) (
 .sum (ref01_From_l3 m.Places m.Roads seen true) (fun y1 =>
 .leaf y1) (fun _ => .fail)) (
 .fail)
noncomputable def ref01_From_m : FnM := nfM (SMine × (Sq Bool)) ((Sq Bool)) (fun p => ([.agg (SMine.enc p.1), sqA 1 eO p.2], [])) (fun p => ref01_From_t p.1 p.2) (fun _ => .own 0 0) (fun _ r => [rowA 0 1 4 eO r])
noncomputable def ref01_From_env : Env := envM [] [(6, [2, 5, 6, 7], [2, 5, 6]), (3, [2, 5, 6], [5])] [(6, ref01_From_l6_m.c), (3, ref01_From_l3_m.c)] [] [(6, [0, 192]), (3, [0, 192])] 0
noncomputable def ref01_From_e : Env := { ref01_From_env with nt := 49 }
theorem ref01_From_l6_tells : LoopTells ref01_From_e (loopOf 6 Try.f30) ref01_From_l6_m.c := ref01_From_l6_m.tells 576 (fun _ => by kernel_rfl) (fun _ _ _ _ => by kernel_rfl) (fun _ _ _ _ => by kernel_rfl) fun R f v N K => by kernel_rfl
theorem ref01_From_l3_tells : LoopTells ref01_From_e (loopOf 3 Try.f30) ref01_From_l3_m.c := ref01_From_l3_m.tells 384 (fun _ => by kernel_rfl) (fun _ _ _ _ => by kernel_rfl) (fun _ _ _ _ => by kernel_rfl) fun R f v N K => by kernel_rfl
theorem ref01_From_tells : Tells Try.prog 30 ref01_From_m.c := ref01_From_m.tells Try.func30 (show ∀ p, arun ref01_From_env Try.f30 (ref01_From_m.enc p).1 (ref01_From_m.enc p).2 = _ from fun p => by kernel_rfl) (loopsL [loopOf 3 Try.f30, loopOf 6 Try.f30] (by kernel_rfl) ⟨lpT (by kernel_rfl) ref01_From_l3_tells, ⟨lpT (by kernel_rfl) ref01_From_l6_tells, trivial⟩⟩) .nil
noncomputable def ref01_From (m : SMine) (seen : Sq Bool) : Option ((Sq Bool)) := ref01_From_m.val (m, seen)
theorem ref01_From_eq (m : SMine) (seen : Sq Bool) : ref01_From m seen = (ref01_From_t m seen).get := ref01_From_m.val_eq (fun x => (SMine.dec (aggL (gd x.1 0)), sqD dO (gd x.1 1))) (fun p => by kernel_rfl) (m, seen)

/-! minecontrol/minecontrolref01.Airy -/
noncomputable def ref01_Airy_l3_step (u3_0 : Sq SPlace) (_u3_1 : Sq SRoad) (u3_2 : Sq Bool) (u3_3 : Int) : DT (LR ((Sq Bool) × Int) ((Sq Bool)) (Unit)) :=
 .ite (decide (u3_3 < ((u3_0.n : Nat) : Int))) (
 .ite (decide ((0 : Int) ≤ u3_3 ∧ u3_3 < ((u3_0.n : Nat) : Int))) (
 .ite (decide ((0 : Int) ≤ u3_3 ∧ u3_3 < ((u3_2.n : Nat) : Int))) (
 .leaf (.next ((Sq.mk u3_2.n (fun k0 => (cond (Nat.beq k0 (Int.toNat u3_3)) (u3_0.f (Int.toNat u3_3)).Surface (u3_2.f k0)))), (wr (u3_3 + (1 : Int)))))) (
 .fail)) (
 .fail)) (
 .leaf (.l u3_2))
noncomputable def ref01_Airy_l3_m : LpM := ⟨(Sq SPlace) × (Sq SRoad), (Sq Bool) × Int, (Sq Bool), Unit, fun p => ⟨[(1, .ptr 0 0), (3, .own 320 0), (4, .int .i64 p.2.2)], [(0, .var [sqA 2 SPlace.enc p.1.1, sqA 10 SRoad.enc p.1.2]), (320, rowA 0 1 4 eO p.2.1)], 512⟩, fun f v => ref01_Airy_l3_step f.1 f.2 v.1 v.2, true, (.exit 0), (fun x a => ⟨[(1, .ptr 0 0), (3, .own 320 0)], [(0, blkS x 0), (320, rowA 0 1 4 eO a)], 512⟩), .ret, (fun _ _ => ⟨[], [], 0⟩), c1, c1k⟩
noncomputable def ref01_Airy_l3 (u3_0 : Sq SPlace) (u3_1 : Sq SRoad) (u3_2 : Sq Bool) (u3_3 : Int) : Option (((Sq Bool)) ⊕ (Unit)) := ref01_Airy_l3_m.val ((u3_0, u3_1), (u3_2, u3_3))
theorem ref01_Airy_l3_eq (u3_0 : Sq SPlace) (u3_1 : Sq SRoad) (u3_2 : Sq Bool) (u3_3 : Int) : ref01_Airy_l3 u3_0 u3_1 u3_2 u3_3 = fixO (fun v : (Sq Bool) × Int => ref01_Airy_l3_step u3_0 u3_1 v.1 v.2) (u3_2, u3_3) := ref01_Airy_l3_m.val_eq (fun x => ((sqD SPlace.dec (cellS x 0 0), sqD SRoad.dec (cellS x 0 1)), (sqB dO (blkS x 320), intA (aget x.tm 4)))) (fun p => by kernel_rfl) ((u3_0, u3_1), (u3_2, u3_3))
noncomputable def ref01_Airy_t (m : SMine) : DT ((Sq Bool)) :=
 .ite (decide ((0 : Int) ≤ ((m.Places.n : Nat) : Int) ∧ ((m.Places.n : Nat) : Int) ≤ ((m.Places.n : Nat) : Int) ∧ ((m.Places.n : Nat) : Int) * ((1 : Nat) : Int) ≤ 140737488355328 ∧ ((m.Places.n : Nat) : Int) ≤ 1099511627776)) (
 .sum (ref01_Airy_l3 m.Places m.Roads (Sq.mk (Int.toNat ((m.Places.n : Nat) : Int)) (fun _ => false)) (0 : Int)) (fun y0 =>
 .bind (ref01_From m y0) fun z0 =>
 .leaf z0) (fun _ => .fail)) (
 .fail)
noncomputable def ref01_Airy_m : FnM := nfM (SMine) ((Sq Bool)) (fun p => ([.agg (SMine.enc p)], [])) (fun p => ref01_Airy_t p) (fun _ => .own 0 0) (fun _ r => [rowA 0 1 4 eO r])
noncomputable def ref01_Airy_env : Env := envM [(30, ref01_From_m.c)] [(3, [1, 3, 4], [1, 3])] [(3, ref01_Airy_l3_m.c)] [(6, [.freeze 320])] [(3, [0, 320])] 0
noncomputable def ref01_Airy_e : Env := { ref01_Airy_env with nt := 28 }
theorem ref01_Airy_l3_tells : LoopTells ref01_Airy_e (loopOf 3 Try.f27) ref01_Airy_l3_m.c := ref01_Airy_l3_m.tells 512 (fun _ => by kernel_rfl) (fun _ _ _ _ => by kernel_rfl) (fun _ _ _ _ => by kernel_rfl) fun R f v N K => by kernel_rfl
theorem ref01_Airy_tells : Tells Try.prog 27 ref01_Airy_m.c := ref01_Airy_m.tells Try.func27 (show ∀ p, arun ref01_Airy_env Try.f27 (ref01_Airy_m.enc p).1 (ref01_Airy_m.enc p).2 = _ from fun p => by kernel_rfl) (loopsL [loopOf 3 Try.f27] (by kernel_rfl) ⟨lpT (by kernel_rfl) ref01_Airy_l3_tells, trivial⟩) (.cons ref01_From_tells .nil)
noncomputable def ref01_Airy (m : SMine) : Option ((Sq Bool)) := ref01_Airy_m.val m
theorem ref01_Airy_eq (m : SMine) : ref01_Airy m = (ref01_Airy_t m).get := ref01_Airy_m.val_eq (fun x => SMine.dec (aggL (gd x.1 0))) (fun p => by kernel_rfl) m

/-! minecontrol/minecontrolref01.CutOff -/
noncomputable def ref01_CutOff_l6_step (u6_1 : Sq Bool) (u6_0 : Sq Int) (u6_2 : Int) : DT (LR ((Sq Int) × Int) ((Sq Int)) (Unit)) :=
 .ite (decide (u6_2 < ((u6_1.n : Nat) : Int))) (
 .ite (decide ((0 : Int) ≤ u6_2 ∧ u6_2 < ((u6_1.n : Nat) : Int))) (
 .ite (!(u6_1.f (Int.toNat u6_2))) (
 .ite (decide ((u6_0.n + 1) * 8 ≤ 140737488355328 ∧ (u6_0.n + 1) ≤ 1099511627776)) (
 .leaf (.next ((Sq.mk (u6_0.n + 1) (fun k0 => (cond (Nat.blt k0 u6_0.n) (u6_0.f k0) u6_2))), (wr (u6_2 + (1 : Int)))))) (
 .fail)) (
 .leaf (.next (u6_0, (wr (u6_2 + (1 : Int))))))) (
 .fail)) (
 .leaf (.l u6_0))
noncomputable def ref01_CutOff_l6_m : LpM := ⟨(Sq Bool), (Sq Int) × Int, (Sq Int), Unit, fun p => ⟨[(3, .own 384 0), (4, .own 512 0), (5, .int .i64 p.2.2)], [(384, rowA 0 1 3 (eI .i64) p.2.1), (512, rowA 0 1 4 eO p.1)], 704⟩, fun f v => ref01_CutOff_l6_step f v.1 v.2, true, (.exit 0), (fun x a => ⟨[(3, .own 384 0)], [(384, rowA 0 1 3 (eI .i64) a), (512, blkS x 512)], 704⟩), .ret, (fun _ _ => ⟨[], [], 0⟩), c1, c1k⟩
noncomputable def ref01_CutOff_l6 (u6_1 : Sq Bool) (u6_0 : Sq Int) (u6_2 : Int) : Option (((Sq Int)) ⊕ (Unit)) := ref01_CutOff_l6_m.val (u6_1, (u6_0, u6_2))
theorem ref01_CutOff_l6_eq (u6_1 : Sq Bool) (u6_0 : Sq Int) (u6_2 : Int) : ref01_CutOff_l6 u6_1 u6_0 u6_2 = fixO (fun v : (Sq Int) × Int => ref01_CutOff_l6_step u6_1 v.1 v.2) (u6_0, u6_2) := ref01_CutOff_l6_m.val_eq (fun x => (sqB dO (blkS x 512), (sqB dI (blkS x 384), intA (aget x.tm 5)))) (fun p => by kernel_rfl) (u6_1, (u6_0, u6_2))
noncomputable def ref01_CutOff_t (m : SMine) : DT ((Sq Int)) :=
 .bind (ref01_Check m) fun z0 =>
 .ite (z0 != (0 : Int)) (
 .leaf (Sq.mk 0 (fun _ => (0 : Int)))) (
 .bind (ref01_Airy m) fun z1 =>
 .sum (ref01_CutOff_l6 z1 (Sq.mk 0 (fun _ => (0 : Int))) (0 : Int)) (fun y0 =>
 .leaf y0) (fun _ => .fail))
noncomputable def ref01_CutOff_m : FnM := nfM (SMine) ((Sq Int)) (fun p => ([.agg (SMine.enc p)], [])) (fun p => ref01_CutOff_t p) (fun _ => .own 0 0) (fun _ r => [rowA 0 1 3 (eI .i64) r])
noncomputable def ref01_CutOff_env : Env := envM [(26, ref01_Check_m.c), (27, ref01_Airy_m.c)] [(6, [3, 4, 5], [3])] [(6, ref01_CutOff_l6_m.c)] [(1000006, [.asrow 384 3 1 (fun _ => (eI .i64) (0 : Int))]), (2000000, [.asrow 320 3 1 (fun _ => (eI .i64) (0 : Int))])] [(6, [384, 512])] 0
noncomputable def ref01_CutOff_e : Env := { ref01_CutOff_env with nt := 27 }
theorem ref01_CutOff_l6_tells : LoopTells ref01_CutOff_e (loopOf 6 Try.f13) ref01_CutOff_l6_m.c := ref01_CutOff_l6_m.tells 704 (fun _ => by kernel_rfl) (fun _ _ _ _ => by kernel_rfl) (fun _ _ _ _ => by kernel_rfl) fun R f v N K => by kernel_rfl
theorem ref01_CutOff_tells : Tells Try.prog 13 ref01_CutOff_m.c := ref01_CutOff_m.tells Try.func13 (show ∀ p, arun ref01_CutOff_env Try.f13 (ref01_CutOff_m.enc p).1 (ref01_CutOff_m.enc p).2 = _ from fun p => by kernel_rfl) (loopsL [loopOf 6 Try.f13] (by kernel_rfl) ⟨lpT (by kernel_rfl) ref01_CutOff_l6_tells, trivial⟩) (.cons ref01_Check_tells (.cons ref01_Airy_tells .nil))
noncomputable def ref01_CutOff (m : SMine) : Option ((Sq Int)) := ref01_CutOff_m.val m
theorem ref01_CutOff_eq (m : SMine) : ref01_CutOff m = (ref01_CutOff_t m).get := ref01_CutOff_m.val_eq (fun x => SMine.dec (aggL (gd x.1 0))) (fun p => by kernel_rfl) m

/-! minecontrol/minecontrolref01.Parts -/
noncomputable def ref01_Parts_l14_step (_u14_0 : Int) (_u14_1 : Sq SPlace) (_u14_2 : Sq SRoad) (_u14_3 : (Sq (Sq Int))) (u14_5 u14_4 : Sq Bool) (u14_6 : Sq Int) (u14_7 : Int) : DT (LR ((Sq Bool) × (Sq Int) × Int) ((Sq Bool) × (Sq Int)) (Unit)) :=
 .ite (decide (u14_7 < ((u14_5.n : Nat) : Int))) (
 .ite (decide ((0 : Int) ≤ u14_7 ∧ u14_7 < ((u14_5.n : Nat) : Int))) (
 .ite (u14_5.f (Int.toNat u14_7)) (
 .ite (decide ((u14_6.n + 1) * 8 ≤ 140737488355328 ∧ (u14_6.n + 1) ≤ 1099511627776)) (
 .ite (decide ((0 : Int) ≤ u14_7 ∧ u14_7 < ((u14_4.n : Nat) : Int))) (
 .leaf (.next ((Sq.mk u14_4.n (fun k0 => (cond (Nat.beq k0 (Int.toNat u14_7)) true (u14_4.f k0)))), (Sq.mk (u14_6.n + 1) (fun k1 => (cond (Nat.blt k1 u14_6.n) (u14_6.f k1) u14_7))), (wr (u14_7 + (1 : Int)))))) (
 .fail)) (
 .fail)) (
 .leaf (.next (u14_4, u14_6, (wr (u14_7 + (1 : Int))))))) (
 .fail)) (
 .leaf (.l (u14_4, u14_6)))
noncomputable def ref01_Parts_l14_m : LpM := ⟨Int × (Sq SPlace) × (Sq SRoad) × (Sq (Sq Int)) × (Sq Bool), (Sq Bool) × (Sq Int) × Int, (Sq Bool) × (Sq Int), Unit, fun p => ⟨[(1, .ptr 0 0), (3, .own 384 0), (4, .own 640 0), (5, .int .i64 p.1.1), (6, .own 2112 0), (7, .own 2240 0), (8, .int .i64 p.2.2.2)], [(0, .var [sqA 2 SPlace.enc p.1.2.1, sqA 10 SRoad.enc p.1.2.2.1]), (384, rowA 0 1 33 (eQ 1 (eI .i64)) p.1.2.2.2.1), (640, rowA 0 1 4 eO p.2.1), (2112, rowA 0 1 4 eO p.1.2.2.2.2), (2240, rowA 0 1 3 (eI .i64) p.2.2.1)], 2368⟩, fun f v => ref01_Parts_l14_step f.1 f.2.1 f.2.2.1 f.2.2.2.1 f.2.2.2.2 v.1 v.2.1 v.2.2, true, (.exit 2), (fun x a => ⟨[(1, .ptr 0 0), (3, .own 384 0), (4, .own 640 0), (5, aget x.tm 5), (7, .own 2240 0)], [(0, blkS x 0), (384, blkS x 384), (640, rowA 0 1 4 eO a.1), (2112, blkS x 2112), (2240, rowA 0 1 3 (eI .i64) a.2)], 2368⟩), .ret, (fun _ _ => ⟨[], [], 0⟩), c1, c1k⟩
noncomputable def ref01_Parts_l14 (u14_0 : Int) (u14_1 : Sq SPlace) (u14_2 : Sq SRoad) (u14_3 : (Sq (Sq Int))) (u14_5 u14_4 : Sq Bool) (u14_6 : Sq Int) (u14_7 : Int) : Option (((Sq Bool) × (Sq Int)) ⊕ (Unit)) := ref01_Parts_l14_m.val ((u14_0, u14_1, u14_2, u14_3, u14_5), (u14_4, u14_6, u14_7))
theorem ref01_Parts_l14_eq (u14_0 : Int) (u14_1 : Sq SPlace) (u14_2 : Sq SRoad) (u14_3 : (Sq (Sq Int))) (u14_5 u14_4 : Sq Bool) (u14_6 : Sq Int) (u14_7 : Int) : ref01_Parts_l14 u14_0 u14_1 u14_2 u14_3 u14_5 u14_4 u14_6 u14_7 = fixO (fun v : (Sq Bool) × (Sq Int) × Int => ref01_Parts_l14_step u14_0 u14_1 u14_2 u14_3 u14_5 v.1 v.2.1 v.2.2) (u14_4, u14_6, u14_7) := ref01_Parts_l14_m.val_eq (fun x => ((intA (aget x.tm 5), sqD SPlace.dec (cellS x 0 0), sqD SRoad.dec (cellS x 0 1), sqB (dQ dI) (blkS x 384), sqB dO (blkS x 2112)), (sqB dO (blkS x 640), sqB dI (blkS x 2240), intA (aget x.tm 8)))) (fun p => by kernel_rfl) ((u14_0, u14_1, u14_2, u14_3, u14_5), (u14_4, u14_6, u14_7))
noncomputable def ref01_Parts_l6_step (u6_0 : Sq SPlace) (u6_1 : Sq SRoad) (u6_2 : (Sq (Sq Int))) (u6_3 : Sq Bool) (u6_4 : Int) : DT (LR ((Sq (Sq Int)) × (Sq Bool) × Int) ((Sq (Sq Int)) × (Sq Bool)) (Unit)) :=
 .ite (decide (u6_4 < ((u6_0.n : Nat) : Int))) (
 .ite (decide ((0 : Int) ≤ u6_4 ∧ u6_4 < ((u6_3.n : Nat) : Int))) (
 .ite (u6_3.f (Int.toNat u6_4)) (
 .leaf (.next (u6_2, u6_3, (wr (u6_4 + (1 : Int)))))) (
 .ite (decide ((0 : Int) ≤ ((u6_0.n : Nat) : Int) ∧ ((u6_0.n : Nat) : Int) ≤ ((u6_0.n : Nat) : Int) ∧ ((u6_0.n : Nat) : Int) * ((1 : Nat) : Int) ≤ 140737488355328 ∧ ((u6_0.n : Nat) : Int) ≤ 1099511627776)) (
 .ite (decide ((0 : Int) ≤ u6_4 ∧ u6_4 < (((Int.toNat ((u6_0.n : Nat) : Int)) : Nat) : Int))) (
 .bind (ref01_From (SMine.mk u6_0 u6_1) (Sq.mk (Int.toNat ((u6_0.n : Nat) : Int)) (fun k2 => (cond (Nat.beq k2 (Int.toNat u6_4)) true false)))) fun z0 =>
 .sum (ref01_Parts_l14 u6_4 u6_0 u6_1 u6_2 z0 u6_3 (Sq.mk 0 (fun _ => (0 : Int))) (0 : Int)) (fun y0 =>
 .ite (decide ((u6_2.n + 1) * 24 ≤ 140737488355328 ∧ (u6_2.n + 1) ≤ 1099511627776)) (
 .leaf (.next ((Sq.mk (u6_2.n + 1) (fun k3 => (Sq.mk (cond (Nat.blt k3 u6_2.n) (u6_2.f k3).n y0.2.n) (fun k4 => (cond (Nat.blt k3 u6_2.n) ((u6_2.f k3).f k4) (y0.2.f k4)))))), y0.1, (wr (u6_4 + (1 : Int)))))) (
 .fail)) (fun _ => .fail)) (
 .fail)) (
 .fail))) (
 .fail)) (
 .leaf (.l (u6_2, u6_3)))
noncomputable def ref01_Parts_l6_m : LpM := ⟨(Sq SPlace) × (Sq SRoad), (Sq (Sq Int)) × (Sq Bool) × Int, (Sq (Sq Int)) × (Sq Bool), Unit, fun p => ⟨[(1, .ptr 0 0), (3, .own 384 0), (4, .own 640 0), (5, .int .i64 p.2.2.2)], [(0, .var [sqA 2 SPlace.enc p.1.1, sqA 10 SRoad.enc p.1.2]), (384, rowA 0 1 33 (eQ 1 (eI .i64)) p.2.1), (640, rowA 0 1 4 eO p.2.2.1)], 832⟩, fun f v => ref01_Parts_l6_step f.1 f.2 v.1 v.2.1 v.2.2, true, (.exit 0), (fun x a => ⟨[(3, .own 384 0)], [(0, blkS x 0), (384, rowA 0 1 33 (eQ 1 (eI .i64)) a.1), (640, rowA 0 1 4 eO a.2)], 832⟩), .ret, (fun _ _ => ⟨[], [], 0⟩), c1, c1k⟩
noncomputable def ref01_Parts_l6 (u6_0 : Sq SPlace) (u6_1 : Sq SRoad) (u6_2 : (Sq (Sq Int))) (u6_3 : Sq Bool) (u6_4 : Int) : Option (((Sq (Sq Int)) × (Sq Bool)) ⊕ (Unit)) := ref01_Parts_l6_m.val ((u6_0, u6_1), (u6_2, u6_3, u6_4))
theorem ref01_Parts_l6_eq (u6_0 : Sq SPlace) (u6_1 : Sq SRoad) (u6_2 : (Sq (Sq Int))) (u6_3 : Sq Bool) (u6_4 : Int) : ref01_Parts_l6 u6_0 u6_1 u6_2 u6_3 u6_4 = fixO (fun v : (Sq (Sq Int)) × (Sq Bool) × Int => ref01_Parts_l6_step u6_0 u6_1 v.1 v.2.1 v.2.2) (u6_2, u6_3, u6_4) := ref01_Parts_l6_m.val_eq (fun x => ((sqD SPlace.dec (cellS x 0 0), sqD SRoad.dec (cellS x 0 1)), (sqB (dQ dI) (blkS x 384), sqB dO (blkS x 640), intA (aget x.tm 5)))) (fun p => by kernel_rfl) ((u6_0, u6_1), (u6_2, u6_3, u6_4))
noncomputable def ref01_Parts_t (m : SMine) : DT ((Sq (Sq Int))) :=
 .bind (ref01_Check m) fun z1 =>
 .ite (z1 != (0 : Int)) (
 .leaf (Sq.mk 0 (fun _ => (Sq.mk 0 (fun _ => (0 : Int)))))) (
 .ite (decide ((0 : Int) ≤ ((m.Places.n : Nat) : Int) ∧ ((m.Places.n : Nat) : Int) ≤ ((m.Places.n : Nat) : Int) ∧ ((m.Places.n : Nat) : Int) * ((1 : Nat) : Int) ≤ 140737488355328 ∧ ((m.Places.n : Nat) : Int) ≤ 1099511627776)) (
 .sum (ref01_Parts_l6 m.Places m.Roads (Sq.mk 0 (fun _ => (Sq.mk 0 (fun _ => (0 : Int))))) (Sq.mk (Int.toNat ((m.Places.n : Nat) : Int)) (fun _ => false)) (0 : Int)) (fun y1 =>
 .leaf y1.1) (fun _ => .fail)) (
 .fail))
noncomputable def ref01_Parts_m : FnM := nfM (SMine) ((Sq (Sq Int))) (fun p => ([.agg (SMine.enc p)], [])) (fun p => ref01_Parts_t p) (fun _ => .own 0 0) (fun _ r => [rowA 0 1 33 (eQ 1 (eI .i64)) r])
noncomputable def ref01_Parts_env : Env := envM [(26, ref01_Check_m.c), (30, ref01_From_m.c)] [(14, [1, 3, 4, 5, 6, 7, 8], [1, 3, 4, 5, 7]), (6, [1, 3, 4, 5], [3])] [(14, ref01_Parts_l14_m.c), (6, ref01_Parts_l6_m.c)] [(11, [.freeze 1600]), (1000014, [.asrow 2240 3 1 (fun _ => (eI .i64) (0 : Int)), .asrow 384 33 1 (fun _ => (eQ 1 (eI .i64)) (Sq.mk 0 (fun _ => (0 : Int))))]), (19, [.freeze 2240]), (1000006, [.asrow 384 33 1 (fun _ => (eQ 1 (eI .i64)) (Sq.mk 0 (fun _ => (0 : Int))))]), (2000000, [.asrow 320 33 1 (fun _ => (eQ 1 (eI .i64)) (Sq.mk 0 (fun _ => (0 : Int))))])] [(14, [0, 384, 640, 2112, 2240]), (6, [0, 384, 640])] 0
noncomputable def ref01_Parts_e : Env := { ref01_Parts_env with nt := 59 }
theorem ref01_Parts_l14_tells : LoopTells ref01_Parts_e (loopOf 14 Try.f16) ref01_Parts_l14_m.c := ref01_Parts_l14_m.tells 2368 (fun _ => by kernel_rfl) (fun _ _ _ _ => by kernel_rfl) (fun _ _ _ _ => by kernel_rfl) fun R f v N K => by kernel_rfl
theorem ref01_Parts_l6_tells : LoopTells ref01_Parts_e (loopOf 6 Try.f16) ref01_Parts_l6_m.c := ref01_Parts_l6_m.tells 832 (fun _ => by kernel_rfl) (fun _ _ _ _ => by kernel_rfl) (fun _ _ _ _ => by kernel_rfl) fun R f v N K => by kernel_rfl
theorem ref01_Parts_tells : Tells Try.prog 16 ref01_Parts_m.c := ref01_Parts_m.tells Try.func16 (show ∀ p, arun ref01_Parts_env Try.f16 (ref01_Parts_m.enc p).1 (ref01_Parts_m.enc p).2 = _ from fun p => by kernel_rfl) (loopsL [loopOf 6 Try.f16, loopOf 14 Try.f16] (by kernel_rfl) ⟨lpT (by kernel_rfl) ref01_Parts_l6_tells, ⟨lpT (by kernel_rfl) ref01_Parts_l14_tells, trivial⟩⟩) (.cons ref01_Check_tells (.cons ref01_From_tells .nil))
noncomputable def ref01_Parts (m : SMine) : Option ((Sq (Sq Int))) := ref01_Parts_m.val m
theorem ref01_Parts_eq (m : SMine) : ref01_Parts m = (ref01_Parts_t m).get := ref01_Parts_m.val_eq (fun x => SMine.dec (aggL (gd x.1 0))) (fun p => by kernel_rfl) m

/-! minecontrol/minecontrolref01.Lists -/
noncomputable def ref01_Lists_l4_step (u4_0 u4_1 : (Sq (Sq Int))) (u4_2 : Int) : DT (LR (Int) (Unit) (Unit)) :=
 .ite (decide (u4_2 < ((u4_0.n : Nat) : Int))) (
 .ite (decide ((0 : Int) ≤ u4_2 ∧ u4_2 < ((u4_0.n : Nat) : Int))) (
 .ite (decide ((0 : Int) ≤ u4_2 ∧ u4_2 < ((u4_1.n : Nat) : Int))) (
 .bind (ref01_Ints (u4_0.f (Int.toNat u4_2)) (u4_1.f (Int.toNat u4_2))) fun z0 =>
 .ite (!z0) (
 .leaf (.r ())) (
 .leaf (.next (wr (u4_2 + (1 : Int)))))) (
 .fail)) (
 .fail)) (
 .leaf (.l ()))
noncomputable def ref01_Lists_l4_m : LpM := ⟨(Sq (Sq Int)) × (Sq (Sq Int)), Int, Unit, Unit, fun p => ⟨[(0, sqA 1 (eQ 1 (eI .i64)) p.1.1), (1, sqA 1 (eQ 1 (eI .i64)) p.1.2), (5, .int .i64 p.2)], [], 512⟩, fun f v => ref01_Lists_l4_step f.1 f.2 v, false, (.exit 0), (fun _ _ => ⟨[(4, .undef)], [], 512⟩), .ret, (fun _ _ => ⟨[(4, .bool false)], [], 512⟩), c1, c1k⟩
noncomputable def ref01_Lists_l4 (u4_0 u4_1 : (Sq (Sq Int))) (u4_2 : Int) : Option ((Unit) ⊕ (Unit)) := ref01_Lists_l4_m.val ((u4_0, u4_1), u4_2)
theorem ref01_Lists_l4_eq (u4_0 u4_1 : (Sq (Sq Int))) (u4_2 : Int) : ref01_Lists_l4 u4_0 u4_1 u4_2 = fixO (fun v : Int => ref01_Lists_l4_step u4_0 u4_1 v) u4_2 := ref01_Lists_l4_m.val_eq (fun x => ((sqD (dQ dI) (aget x.tm 0), sqD (dQ dI) (aget x.tm 1)), intA (aget x.tm 5))) (fun p => by kernel_rfl) ((u4_0, u4_1), u4_2)
noncomputable def ref01_Lists_t (a b : (Sq (Sq Int))) : DT (Bool) :=
 .ite (((a.n : Nat) : Int) != ((b.n : Nat) : Int)) (
 .leaf false) (
 .sum (ref01_Lists_l4 a b (0 : Int)) (fun _ =>
 .leaf true) (fun _ => .leaf false))
noncomputable def ref01_Lists_m : FnM := flM ((Sq (Sq Int)) × (Sq (Sq Int))) (Bool) (fun p => ([sqA 1 (eQ 1 (eI .i64)) p.1, sqA 1 (eQ 1 (eI .i64)) p.2], [])) (fun p => ref01_Lists_t p.1 p.2) (fun r => .bool r) (fun _ => rfl)
noncomputable def ref01_Lists_env : Env := envM [(7, ref01_Ints_m.c)] [(4, [0, 1, 5], [4])] [(4, ref01_Lists_l4_m.c)] [] [(4, [])] 0
noncomputable def ref01_Lists_e : Env := { ref01_Lists_env with nt := 27 }
theorem ref01_Lists_l4_tells : LoopTells ref01_Lists_e (loopOf 4 Try.f14) ref01_Lists_l4_m.c := ref01_Lists_l4_m.tells 512 (fun _ => by kernel_rfl) (fun _ _ _ _ => by kernel_rfl) (fun _ _ _ _ => by kernel_rfl) fun R f v N K => by kernel_rfl
theorem ref01_Lists_tells : Tells Try.prog 14 ref01_Lists_m.c := ref01_Lists_m.tells Try.func14 (show ∀ p, arun ref01_Lists_env Try.f14 (ref01_Lists_m.enc p).1 (ref01_Lists_m.enc p).2 = _ from fun p => by kernel_rfl) (loopsL [loopOf 4 Try.f14] (by kernel_rfl) ⟨lpT (by kernel_rfl) ref01_Lists_l4_tells, trivial⟩) (.cons ref01_Ints_tells .nil)
noncomputable def ref01_Lists (a b : (Sq (Sq Int))) : Option (Bool) := ref01_Lists_m.val (a, b)
theorem ref01_Lists_eq (a b : (Sq (Sq Int))) : ref01_Lists a b = (ref01_Lists_t a b).get := ref01_Lists_m.val_eq (fun x => (sqD (dQ dI) (gd x.1 0), sqD (dQ dI) (gd x.1 1))) (fun p => by kernel_rfl) (a, b)

/-! minecontrol/plan.checkEdit -/
noncomputable def plan_checkEdit_t (m : SMine) (e : SEdit) : DT (Int) :=
 .ite (e.Kind == (1 : Int)) (
 .leaf (0 : Int)) (
 .ite (e.Kind == (2 : Int)) (
 .leaf (0 : Int)) (
 .ite (e.Kind == (3 : Int)) (
 .bind (plan_hasRoad m e.Road) fun z0 =>
 .ite (!z0) (
 .leaf (4 : Int)) (
 .ite (decide ((0 : Int) ≤ e.Road ∧ e.Road < ((m.Roads.n : Nat) : Int))) (
 .ite (e.Kind == (3 : Int)) (
 .ite (m.Roads.f (Int.toNat e.Road)).Closed (
 .leaf (10 : Int)) (
 .ite (e.Kind == (4 : Int)) (
 .ite (!(m.Roads.f (Int.toNat e.Road)).Closed) (.leaf (10 : Int)) (.leaf (0 : Int))) (
 .leaf (0 : Int)))) (
 .ite (e.Kind == (4 : Int)) (
 .ite (!(m.Roads.f (Int.toNat e.Road)).Closed) (.leaf (10 : Int)) (.leaf (0 : Int))) (
 .leaf (0 : Int)))) (
 .fail))) (
 .ite (e.Kind == (4 : Int)) (
 .bind (plan_hasRoad m e.Road) fun z1 =>
 .ite (!z1) (
 .leaf (4 : Int)) (
 .ite (decide ((0 : Int) ≤ e.Road ∧ e.Road < ((m.Roads.n : Nat) : Int))) (
 .ite (e.Kind == (3 : Int)) (
 .ite (m.Roads.f (Int.toNat e.Road)).Closed (
 .leaf (10 : Int)) (
 .ite (e.Kind == (4 : Int)) (
 .ite (!(m.Roads.f (Int.toNat e.Road)).Closed) (.leaf (10 : Int)) (.leaf (0 : Int))) (
 .leaf (0 : Int)))) (
 .ite (e.Kind == (4 : Int)) (
 .ite (!(m.Roads.f (Int.toNat e.Road)).Closed) (.leaf (10 : Int)) (.leaf (0 : Int))) (
 .leaf (0 : Int)))) (
 .fail))) (
 .ite (e.Kind == (5 : Int)) (
 .bind (plan_hasRoad m e.Road) fun z2 =>
 .ite (!z2) (
 .leaf (4 : Int)) (
 .ite (decide ((0 : Int) ≤ e.Road ∧ e.Road < ((m.Roads.n : Nat) : Int))) (
 .ite (e.Kind == (3 : Int)) (
 .ite (m.Roads.f (Int.toNat e.Road)).Closed (
 .leaf (10 : Int)) (
 .ite (e.Kind == (4 : Int)) (
 .ite (!(m.Roads.f (Int.toNat e.Road)).Closed) (.leaf (10 : Int)) (.leaf (0 : Int))) (
 .leaf (0 : Int)))) (
 .ite (e.Kind == (4 : Int)) (
 .ite (!(m.Roads.f (Int.toNat e.Road)).Closed) (.leaf (10 : Int)) (.leaf (0 : Int))) (
 .leaf (0 : Int)))) (
 .fail))) (
 .ite (e.Kind == (6 : Int)) (
 .bind (plan_hasRoad m e.Road) fun z3 =>
 .ite (!z3) (
 .leaf (4 : Int)) (
 .ite (decide ((0 : Int) ≤ e.Road ∧ e.Road < ((m.Roads.n : Nat) : Int))) (
 .ite (e.Kind == (3 : Int)) (
 .ite (m.Roads.f (Int.toNat e.Road)).Closed (
 .leaf (10 : Int)) (
 .ite (e.Kind == (4 : Int)) (
 .ite (!(m.Roads.f (Int.toNat e.Road)).Closed) (.leaf (10 : Int)) (.leaf (0 : Int))) (
 .leaf (0 : Int)))) (
 .ite (e.Kind == (4 : Int)) (
 .ite (!(m.Roads.f (Int.toNat e.Road)).Closed) (.leaf (10 : Int)) (.leaf (0 : Int))) (
 .leaf (0 : Int)))) (
 .fail))) (
 .leaf (5 : Int)))))))
noncomputable def plan_checkEdit_m : FnM := flM (SMine × SEdit) (Int) (fun p => ([.agg (SMine.enc p.1), .agg (SEdit.enc p.2)], [])) (fun p => plan_checkEdit_t p.1 p.2) (fun r => .int .i64 r) (fun _ => rfl)
noncomputable def plan_checkEdit_env : Env := envM [(22, plan_hasRoad_m.c)] [] [] [] [] 0
theorem plan_checkEdit_tells : Tells Try.prog 38 plan_checkEdit_m.c := plan_checkEdit_m.tells Try.func38 (show ∀ p, arun plan_checkEdit_env Try.f38 (plan_checkEdit_m.enc p).1 (plan_checkEdit_m.enc p).2 = _ from fun p => by kernel_rfl) noLoops (.cons plan_hasRoad_tells .nil)
noncomputable def plan_checkEdit (m : SMine) (e : SEdit) : Option (Int) := plan_checkEdit_m.val (m, e)
theorem plan_checkEdit_eq (m : SMine) (e : SEdit) : plan_checkEdit m e = (plan_checkEdit_t m e).get := plan_checkEdit_m.val_eq (fun x => (SMine.dec (aggL (gd x.1 0)), SEdit.dec (aggL (gd x.1 1)))) (fun p => by kernel_rfl) (m, e)

/-! slices.Clone[[]minecontrol/api.Place,minecontrol/api.Place] -/
noncomputable def slices_Clone_Place_t (s : Sq SPlace) : DT ((Sq SPlace)) :=
 .ite (decide (0 < s.n)) (
 .ite (decide ((0 + s.n) * 16 ≤ 140737488355328 ∧ (0 + s.n) ≤ 1099511627776)) (.leaf (Sq.mk (0 + s.n) (fun k0 => (s.f k0)))) (.fail)) (
 .fail)
noncomputable def slices_Clone_Place_m : FnM := nfM ((Sq SPlace)) ((Sq SPlace)) (fun p => ([sqA 2 SPlace.enc p], [])) (fun p => slices_Clone_Place_t p) (fun _ => .own 0 0) (fun _ r => [rowA 0 2 45 SPlace.enc r])
noncomputable def slices_Clone_Place_env : Env := envM [] [] [] [] [] 0
theorem slices_Clone_Place_tells : Tells Try.prog 60 slices_Clone_Place_m.c := slices_Clone_Place_m.tells Try.func60 (show ∀ p, arun slices_Clone_Place_env Try.f60 (slices_Clone_Place_m.enc p).1 (slices_Clone_Place_m.enc p).2 = _ from fun p => by kernel_rfl) noLoops .nil
noncomputable def slices_Clone_Place (s : Sq SPlace) : Option ((Sq SPlace)) := slices_Clone_Place_m.val s
theorem slices_Clone_Place_eq (s : Sq SPlace) : slices_Clone_Place s = (slices_Clone_Place_t s).get := slices_Clone_Place_m.val_eq (fun x => sqD SPlace.dec (gd x.1 0)) (fun p => by kernel_rfl) s

/-! slices.Clone[[]minecontrol/api.Road,minecontrol/api.Road] -/
noncomputable def slices_Clone_Road_t (s : Sq SRoad) : DT ((Sq SRoad)) :=
 .ite (decide (0 < s.n)) (
 .ite (decide ((0 + s.n) * 72 ≤ 140737488355328 ∧ (0 + s.n) ≤ 1099511627776)) (.leaf (Sq.mk (0 + s.n) (fun k0 => (s.f k0)))) (.fail)) (
 .fail)
noncomputable def slices_Clone_Road_m : FnM := nfM ((Sq SRoad)) ((Sq SRoad)) (fun p => ([sqA 10 SRoad.enc p], [])) (fun p => slices_Clone_Road_t p) (fun _ => .own 0 0) (fun _ r => [rowA 0 10 51 SRoad.enc r])
noncomputable def slices_Clone_Road_env : Env := envM [] [] [] [] [] 0
theorem slices_Clone_Road_tells : Tells Try.prog 61 slices_Clone_Road_m.c := slices_Clone_Road_m.tells Try.func61 (show ∀ p, arun slices_Clone_Road_env Try.f61 (slices_Clone_Road_m.enc p).1 (slices_Clone_Road_m.enc p).2 = _ from fun p => by kernel_rfl) noLoops .nil
noncomputable def slices_Clone_Road (s : Sq SRoad) : Option ((Sq SRoad)) := slices_Clone_Road_m.val s
theorem slices_Clone_Road_eq (s : Sq SRoad) : slices_Clone_Road s = (slices_Clone_Road_t s).get := slices_Clone_Road_m.val_eq (fun x => sqD SRoad.dec (gd x.1 0)) (fun p => by kernel_rfl) s

/-! minecontrol/plan.clone -/
noncomputable def plan_clone_t (m : SMine) : DT (SMine) :=
 .bind (slices_Clone_Place m.Places) fun z0 =>
 .bind (slices_Clone_Road m.Roads) fun z1 =>
 .leaf (SMine.mk z0 z1)
noncomputable def plan_clone_m : FnM := nfM (SMine) (SMine) (fun p => ([.agg (SMine.enc p)], [])) (fun p => plan_clone_t p) (fun _ => .agg [.own 0 0, .own 1 0]) (fun _ r => [rowA 0 2 45 SPlace.enc r.Places, rowA 0 10 51 SRoad.enc r.Roads])
noncomputable def plan_clone_env : Env := envM [(60, slices_Clone_Place_m.c), (61, slices_Clone_Road_m.c)] [] [] [] [] 0
theorem plan_clone_tells : Tells Try.prog 52 plan_clone_m.c := plan_clone_m.tells Try.func52 (show ∀ p, arun plan_clone_env Try.f52 (plan_clone_m.enc p).1 (plan_clone_m.enc p).2 = _ from fun p => by kernel_rfl) noLoops (.cons slices_Clone_Place_tells (.cons slices_Clone_Road_tells .nil))
noncomputable def plan_clone (m : SMine) : Option (SMine) := plan_clone_m.val m
theorem plan_clone_eq (m : SMine) : plan_clone m = (plan_clone_t m).get := plan_clone_m.val_eq (fun x => SMine.dec (aggL (gd x.1 0))) (fun p => by kernel_rfl) m

/-! minecontrol/plan.edit -/
noncomputable def plan_edit_t (m : SMine) (e : SEdit) : DT (SMine) :=
 .bind (plan_clone m) fun z0 =>
 .ite (e.Kind == (1 : Int)) (
 .ite (decide ((z0.Places.n + 1) * 16 ≤ 140737488355328 ∧ (z0.Places.n + 1) ≤ 1099511627776)) (.leaf (SMine.mk (Sq.mk (z0.Places.n + 1) (fun k0 => (SPlace.mk (cond (Nat.blt k0 z0.Places.n) (z0.Places.f k0).Height e.Place.Height) (cond (Nat.blt k0 z0.Places.n) (z0.Places.f k0).Surface e.Place.Surface)))) z0.Roads)) (.fail)) (
 .ite (e.Kind == (2 : Int)) (
 .ite (decide ((z0.Roads.n + 1) * 72 ≤ 140737488355328 ∧ (z0.Roads.n + 1) ≤ 1099511627776)) (.leaf (SMine.mk z0.Places (Sq.mk (z0.Roads.n + 1) (fun k1 => (SRoad.mk (cond (Nat.blt k1 z0.Roads.n) (z0.Roads.f k1).From e.New.From) (cond (Nat.blt k1 z0.Roads.n) (z0.Roads.f k1).To e.New.To) (cond (Nat.blt k1 z0.Roads.n) (z0.Roads.f k1).Length e.New.Length) (cond (Nat.blt k1 z0.Roads.n) (z0.Roads.f k1).Area e.New.Area) (cond (Nat.blt k1 z0.Roads.n) (z0.Roads.f k1).Walk e.New.Walk) (cond (Nat.blt k1 z0.Roads.n) (z0.Roads.f k1).Closed e.New.Closed) (SSpan.mk (cond (Nat.blt k1 z0.Roads.n) (z0.Roads.f k1).Rest.Low e.New.Rest.Low) (cond (Nat.blt k1 z0.Roads.n) (z0.Roads.f k1).Rest.High e.New.Rest.High)) (SSpan.mk (cond (Nat.blt k1 z0.Roads.n) (z0.Roads.f k1).Lift.Low e.New.Lift.Low) (cond (Nat.blt k1 z0.Roads.n) (z0.Roads.f k1).Lift.High e.New.Lift.High))))))) (.fail)) (
 .ite (e.Kind == (3 : Int)) (
 .ite (decide ((0 : Int) ≤ e.Road ∧ e.Road < ((z0.Roads.n : Nat) : Int))) (.leaf (SMine.mk z0.Places (Sq.mk z0.Roads.n (fun k2 => (SRoad.mk (cond (Nat.beq k2 (Int.toNat e.Road)) (z0.Roads.f (Int.toNat e.Road)).From (z0.Roads.f k2).From) (cond (Nat.beq k2 (Int.toNat e.Road)) (z0.Roads.f (Int.toNat e.Road)).To (z0.Roads.f k2).To) (cond (Nat.beq k2 (Int.toNat e.Road)) (z0.Roads.f (Int.toNat e.Road)).Length (z0.Roads.f k2).Length) (cond (Nat.beq k2 (Int.toNat e.Road)) (z0.Roads.f (Int.toNat e.Road)).Area (z0.Roads.f k2).Area) (cond (Nat.beq k2 (Int.toNat e.Road)) (z0.Roads.f (Int.toNat e.Road)).Walk (z0.Roads.f k2).Walk) (cond (Nat.beq k2 (Int.toNat e.Road)) true (z0.Roads.f k2).Closed) (SSpan.mk (cond (Nat.beq k2 (Int.toNat e.Road)) (z0.Roads.f (Int.toNat e.Road)).Rest.Low (z0.Roads.f k2).Rest.Low) (cond (Nat.beq k2 (Int.toNat e.Road)) (z0.Roads.f (Int.toNat e.Road)).Rest.High (z0.Roads.f k2).Rest.High)) (SSpan.mk (cond (Nat.beq k2 (Int.toNat e.Road)) (z0.Roads.f (Int.toNat e.Road)).Lift.Low (z0.Roads.f k2).Lift.Low) (cond (Nat.beq k2 (Int.toNat e.Road)) (z0.Roads.f (Int.toNat e.Road)).Lift.High (z0.Roads.f k2).Lift.High))))))) (.fail)) (
 .ite (e.Kind == (4 : Int)) (
 .ite (decide ((0 : Int) ≤ e.Road ∧ e.Road < ((z0.Roads.n : Nat) : Int))) (.leaf (SMine.mk z0.Places (Sq.mk z0.Roads.n (fun k3 => (SRoad.mk (cond (Nat.beq k3 (Int.toNat e.Road)) (z0.Roads.f (Int.toNat e.Road)).From (z0.Roads.f k3).From) (cond (Nat.beq k3 (Int.toNat e.Road)) (z0.Roads.f (Int.toNat e.Road)).To (z0.Roads.f k3).To) (cond (Nat.beq k3 (Int.toNat e.Road)) (z0.Roads.f (Int.toNat e.Road)).Length (z0.Roads.f k3).Length) (cond (Nat.beq k3 (Int.toNat e.Road)) (z0.Roads.f (Int.toNat e.Road)).Area (z0.Roads.f k3).Area) (cond (Nat.beq k3 (Int.toNat e.Road)) (z0.Roads.f (Int.toNat e.Road)).Walk (z0.Roads.f k3).Walk) (cond (Nat.beq k3 (Int.toNat e.Road)) false (z0.Roads.f k3).Closed) (SSpan.mk (cond (Nat.beq k3 (Int.toNat e.Road)) (z0.Roads.f (Int.toNat e.Road)).Rest.Low (z0.Roads.f k3).Rest.Low) (cond (Nat.beq k3 (Int.toNat e.Road)) (z0.Roads.f (Int.toNat e.Road)).Rest.High (z0.Roads.f k3).Rest.High)) (SSpan.mk (cond (Nat.beq k3 (Int.toNat e.Road)) (z0.Roads.f (Int.toNat e.Road)).Lift.Low (z0.Roads.f k3).Lift.Low) (cond (Nat.beq k3 (Int.toNat e.Road)) (z0.Roads.f (Int.toNat e.Road)).Lift.High (z0.Roads.f k3).Lift.High))))))) (.fail)) (
 .ite (e.Kind == (5 : Int)) (
 .ite (decide ((0 : Int) ≤ e.Road ∧ e.Road < ((z0.Roads.n : Nat) : Int))) (.leaf (SMine.mk z0.Places (Sq.mk z0.Roads.n (fun k4 => (SRoad.mk (cond (Nat.beq k4 (Int.toNat e.Road)) (z0.Roads.f (Int.toNat e.Road)).From (z0.Roads.f k4).From) (cond (Nat.beq k4 (Int.toNat e.Road)) (z0.Roads.f (Int.toNat e.Road)).To (z0.Roads.f k4).To) (cond (Nat.beq k4 (Int.toNat e.Road)) (z0.Roads.f (Int.toNat e.Road)).Length (z0.Roads.f k4).Length) (cond (Nat.beq k4 (Int.toNat e.Road)) (z0.Roads.f (Int.toNat e.Road)).Area (z0.Roads.f k4).Area) (cond (Nat.beq k4 (Int.toNat e.Road)) (z0.Roads.f (Int.toNat e.Road)).Walk (z0.Roads.f k4).Walk) (cond (Nat.beq k4 (Int.toNat e.Road)) (z0.Roads.f (Int.toNat e.Road)).Closed (z0.Roads.f k4).Closed) (SSpan.mk (cond (Nat.beq k4 (Int.toNat e.Road)) e.Span.Low (z0.Roads.f k4).Rest.Low) (cond (Nat.beq k4 (Int.toNat e.Road)) e.Span.High (z0.Roads.f k4).Rest.High)) (SSpan.mk (cond (Nat.beq k4 (Int.toNat e.Road)) (z0.Roads.f (Int.toNat e.Road)).Lift.Low (z0.Roads.f k4).Lift.Low) (cond (Nat.beq k4 (Int.toNat e.Road)) (z0.Roads.f (Int.toNat e.Road)).Lift.High (z0.Roads.f k4).Lift.High))))))) (.fail)) (
 .ite (e.Kind == (6 : Int)) (
 .ite (decide ((0 : Int) ≤ e.Road ∧ e.Road < ((z0.Roads.n : Nat) : Int))) (.leaf (SMine.mk z0.Places (Sq.mk z0.Roads.n (fun k5 => (SRoad.mk (cond (Nat.beq k5 (Int.toNat e.Road)) (z0.Roads.f (Int.toNat e.Road)).From (z0.Roads.f k5).From) (cond (Nat.beq k5 (Int.toNat e.Road)) (z0.Roads.f (Int.toNat e.Road)).To (z0.Roads.f k5).To) (cond (Nat.beq k5 (Int.toNat e.Road)) (z0.Roads.f (Int.toNat e.Road)).Length (z0.Roads.f k5).Length) (cond (Nat.beq k5 (Int.toNat e.Road)) (z0.Roads.f (Int.toNat e.Road)).Area (z0.Roads.f k5).Area) (cond (Nat.beq k5 (Int.toNat e.Road)) (z0.Roads.f (Int.toNat e.Road)).Walk (z0.Roads.f k5).Walk) (cond (Nat.beq k5 (Int.toNat e.Road)) (z0.Roads.f (Int.toNat e.Road)).Closed (z0.Roads.f k5).Closed) (SSpan.mk (cond (Nat.beq k5 (Int.toNat e.Road)) (z0.Roads.f (Int.toNat e.Road)).Rest.Low (z0.Roads.f k5).Rest.Low) (cond (Nat.beq k5 (Int.toNat e.Road)) (z0.Roads.f (Int.toNat e.Road)).Rest.High (z0.Roads.f k5).Rest.High)) (SSpan.mk (cond (Nat.beq k5 (Int.toNat e.Road)) e.Span.Low (z0.Roads.f k5).Lift.Low) (cond (Nat.beq k5 (Int.toNat e.Road)) e.Span.High (z0.Roads.f k5).Lift.High))))))) (.fail)) (
 .leaf z0))))))
noncomputable def plan_edit_m : FnM := nfM (SMine × SEdit) (SMine) (fun p => ([.agg (SMine.enc p.1), .agg (SEdit.enc p.2)], [])) (fun p => plan_edit_t p.1 p.2) (fun _ => .agg [.own 0 0, .own 1 0]) (fun _ r => [rowA 0 2 45 SPlace.enc r.Places, rowA 0 10 51 SRoad.enc r.Roads])
noncomputable def plan_edit_env : Env := envM [(52, plan_clone_m.c)] [] [] [] [] 0
theorem plan_edit_tells : Tells Try.prog 39 plan_edit_m.c := plan_edit_m.tells Try.func39 (show ∀ p, arun plan_edit_env Try.f39 (plan_edit_m.enc p).1 (plan_edit_m.enc p).2 = _ from fun p => by kernel_rfl) noLoops (.cons plan_clone_tells .nil)
noncomputable def plan_edit (m : SMine) (e : SEdit) : Option (SMine) := plan_edit_m.val (m, e)
theorem plan_edit_eq (m : SMine) (e : SEdit) : plan_edit m e = (plan_edit_t m e).get := plan_edit_m.val_eq (fun x => (SMine.dec (aggL (gd x.1 0)), SEdit.dec (aggL (gd x.1 1)))) (fun p => by kernel_rfl) (m, e)

/-! minecontrol/plan.Apply -/
noncomputable def plan_Apply_t (m : SMine) (e : SEdit) : DT (SMine × Int) :=
 .bind (plan_Check m) fun z0 =>
 .ite (z0 != (0 : Int)) (
 .leaf ((SMine.mk (Sq.mk 0 (fun _ => (SPlace.mk (0 : Int) false))) (Sq.mk 0 (fun _ => (SRoad.mk (0 : Int) (0 : Int) (0 : Int) (0 : Int) false false (SSpan.mk (0 : Int) (0 : Int)) (SSpan.mk (0 : Int) (0 : Int)))))), z0)) (
 .bind (plan_checkEdit m e) fun z1 =>
 .ite (z1 != (0 : Int)) (
 .leaf ((SMine.mk (Sq.mk 0 (fun _ => (SPlace.mk (0 : Int) false))) (Sq.mk 0 (fun _ => (SRoad.mk (0 : Int) (0 : Int) (0 : Int) (0 : Int) false false (SSpan.mk (0 : Int) (0 : Int)) (SSpan.mk (0 : Int) (0 : Int)))))), z1)) (
 .bind (plan_edit m e) fun z2 =>
 .bind (plan_Check z2) fun z3 =>
 .ite (z3 != (0 : Int)) (.leaf ((SMine.mk (Sq.mk 0 (fun _ => (SPlace.mk (0 : Int) false))) (Sq.mk 0 (fun _ => (SRoad.mk (0 : Int) (0 : Int) (0 : Int) (0 : Int) false false (SSpan.mk (0 : Int) (0 : Int)) (SSpan.mk (0 : Int) (0 : Int)))))), z3)) (.leaf (z2, (0 : Int)))))
noncomputable def plan_Apply_m : FnM := nfM (SMine × SEdit) (SMine × Int) (fun p => ([.agg (SMine.enc p.1), .agg (SEdit.enc p.2)], [])) (fun p => plan_Apply_t p.1 p.2) (fun r => .tup [.agg [.own 0 0, .own 1 0], .int .i64 r.2]) (fun _ r => [rowA 0 2 45 SPlace.enc r.1.Places, rowA 0 10 51 SRoad.enc r.1.Roads])
noncomputable def plan_Apply_env : Env := envM [(37, plan_Check_m.c), (38, plan_checkEdit_m.c), (39, plan_edit_m.c)] [] [] [(2000000, [.asrow 576 45 2 (fun _ => SPlace.enc (SPlace.mk (0 : Int) false)), .asrow 1216 45 2 (fun _ => SPlace.enc (SPlace.mk (0 : Int) false)), .asrow 2112 45 2 (fun _ => SPlace.enc (SPlace.mk (0 : Int) false)), .asrow 577 51 10 (fun _ => SRoad.enc (SRoad.mk (0 : Int) (0 : Int) (0 : Int) (0 : Int) false false (SSpan.mk (0 : Int) (0 : Int)) (SSpan.mk (0 : Int) (0 : Int)))), .asrow 1217 51 10 (fun _ => SRoad.enc (SRoad.mk (0 : Int) (0 : Int) (0 : Int) (0 : Int) false false (SSpan.mk (0 : Int) (0 : Int)) (SSpan.mk (0 : Int) (0 : Int)))), .asrow 2113 51 10 (fun _ => SRoad.enc (SRoad.mk (0 : Int) (0 : Int) (0 : Int) (0 : Int) false false (SSpan.mk (0 : Int) (0 : Int)) (SSpan.mk (0 : Int) (0 : Int))))])] [] 0
theorem plan_Apply_tells : Tells Try.prog 31 plan_Apply_m.c := plan_Apply_m.tells Try.func31 (show ∀ p, arun plan_Apply_env Try.f31 (plan_Apply_m.enc p).1 (plan_Apply_m.enc p).2 = _ from fun p => by kernel_rfl) noLoops (.cons plan_Check_tells (.cons plan_checkEdit_tells (.cons plan_edit_tells .nil)))
noncomputable def plan_Apply (m : SMine) (e : SEdit) : Option (SMine × Int) := plan_Apply_m.val (m, e)
theorem plan_Apply_eq (m : SMine) (e : SEdit) : plan_Apply m e = (plan_Apply_t m e).get := plan_Apply_m.val_eq (fun x => (SMine.dec (aggL (gd x.1 0)), SEdit.dec (aggL (gd x.1 1)))) (fun p => by kernel_rfl) (m, e)
end Go.Proofs.Ytkgcicbipcifdaa.Ab
