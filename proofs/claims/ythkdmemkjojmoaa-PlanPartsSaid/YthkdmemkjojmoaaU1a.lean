/- Mirrors of code, stage 1. -/
import Derived.Test.YthkdmemkjojmoaaZN
namespace Go.Proofs.Ythkdmemkjojmoaa.Ab
open Go
attribute [local irreducible] arun

structure SCodes where
  l_ : (Sq Int)
  at_ : Int
def SCodes.enc (x : SCodes) : List AV := [sqA 1 (eI .u8) x.l_, .int .i64 x.at_]
def SCodes.dec (l : List AV) : SCodes := ⟨sqD dI (gd l 0), intA (gd l 1)⟩
structure SPlace where
  Height : Int
  Surface : Bool
def SPlace.enc (x : SPlace) : List AV := [.int .i64 x.Height, .bool x.Surface]
def SPlace.dec (l : List AV) : SPlace := ⟨intA (gd l 0), boolA (gd l 1)⟩
structure SSpan where
  Low : Int
  High : Int
def SSpan.enc (x : SSpan) : List AV := [.int .i64 x.Low, .int .i64 x.High]
def SSpan.dec (l : List AV) : SSpan := ⟨intA (gd l 0), intA (gd l 1)⟩
structure SRoad where
  From : Int
  To : Int
  Length : Int
  Area : Int
  Walk : Bool
  Closed : Bool
  Rest : SSpan
  Lift : SSpan
def SRoad.enc (x : SRoad) : List AV := [.int .i64 x.From, .int .i64 x.To, .int .i64 x.Length, .int .i64 x.Area, .bool x.Walk, .bool x.Closed, .int .i64 x.Rest.Low, .int .i64 x.Rest.High, .int .i64 x.Lift.Low, .int .i64 x.Lift.High]
def SRoad.dec (l : List AV) : SRoad := ⟨intA (gd l 0), intA (gd l 1), intA (gd l 2), intA (gd l 3), boolA (gd l 4), boolA (gd l 5), ⟨intA (gd l 6), intA (gd l 7)⟩, ⟨intA (gd l 8), intA (gd l 9)⟩⟩
structure SMine where
  Places : (Sq SPlace)
  Roads : (Sq SRoad)
def SMine.enc (x : SMine) : List AV := [sqA 2 SPlace.enc x.Places, sqA 10 SRoad.enc x.Roads]
def SMine.dec (l : List AV) : SMine := ⟨sqD SPlace.dec (gd l 0), sqD SRoad.dec (gd l 1)⟩
structure SEdit where
  Kind : Int
  Place : SPlace
  New : SRoad
  Road : Int
  Span : SSpan
def SEdit.enc (x : SEdit) : List AV := [.int .i64 x.Kind, .int .i64 x.Place.Height, .bool x.Place.Surface, .int .i64 x.New.From, .int .i64 x.New.To, .int .i64 x.New.Length, .int .i64 x.New.Area, .bool x.New.Walk, .bool x.New.Closed, .int .i64 x.New.Rest.Low, .int .i64 x.New.Rest.High, .int .i64 x.New.Lift.Low, .int .i64 x.New.Lift.High, .int .i64 x.Road, .int .i64 x.Span.Low, .int .i64 x.Span.High]
def SEdit.dec (l : List AV) : SEdit := ⟨intA (gd l 0), ⟨intA (gd l 1), boolA (gd l 2)⟩, ⟨intA (gd l 3), intA (gd l 4), intA (gd l 5), intA (gd l 6), boolA (gd l 7), boolA (gd l 8), ⟨intA (gd l 9), intA (gd l 10)⟩, ⟨intA (gd l 11), intA (gd l 12)⟩⟩, intA (gd l 13), ⟨intA (gd l 14), intA (gd l 15)⟩⟩

/-! minecontrol/minecontroldraw.New -/
noncomputable def New_t (l : Sq Int) : DT (SCodes) :=
 .ite (decide ((0 : Int) ≤ (if (300 : Int) < ((l.n : Nat) : Int) then (300 : Int) else ((l.n : Nat) : Int)) ∧ (if (300 : Int) < ((l.n : Nat) : Int) then (300 : Int) else ((l.n : Nat) : Int)) ≤ ((l.n : Nat) : Int))) (.leaf (SCodes.mk (Sq.mk (Int.toNat (if (300 : Int) < ((l.n : Nat) : Int) then (300 : Int) else ((l.n : Nat) : Int))) l.f) (0 : Int))) (.fail)
noncomputable def New_m : FnM := nfM ((Sq Int)) (SCodes) (fun p => ([sqA 1 (eI .u8) p], [])) (fun p => New_t p) (fun _ => .ptr 0 0) (fun _ r => [.var (SCodes.enc r)])
noncomputable def New_env : Env := envM [] [] [] [] [] 0
theorem New_tells : Tells Try.prog 6 New_m.c := New_m.tells Try.func6 (show ∀ p, arun New_env Try.f6 (New_m.enc p).1 (New_m.enc p).2 = _ from fun p => by kernel_rfl) noLoops .nil
noncomputable def New (l : Sq Int) : Option (SCodes) := New_m.val l
theorem New_eq (l : Sq Int) : New l = (New_t l).get := New_m.val_eq (fun x => sqD dI (gd x.1 0)) (fun p => by kernel_rfl) l

/-! (*minecontrol/minecontroldraw.Codes).Next -/
noncomputable def Codes_Next_t (c : SCodes) (n : Int) : DT (Int × Int) :=
 .ite (decide (n < (1 : Int))) (
 .leaf ((0 : Int), c.at_)) (
 .ite (decide (c.at_ ≥ ((c.l_.n : Nat) : Int))) (
 .leaf ((0 : Int), c.at_)) (
 .ite (decide ((0 : Int) ≤ (wr ((wr (c.at_ + (1 : Int))) - (1 : Int))) ∧ (wr ((wr (c.at_ + (1 : Int))) - (1 : Int))) < ((c.l_.n : Nat) : Int))) (
 .ite (decide (n > (256 : Int))) (
 .ite (decide ((wr (c.at_ + (1 : Int))) < ((c.l_.n : Nat) : Int))) (
 .ite (decide ((0 : Int) ≤ (wr (c.at_ + (1 : Int))) ∧ (wr (c.at_ + (1 : Int))) < ((c.l_.n : Nat) : Int))) (
 .ite (n != 0) (.leaf ((Int.tmod (wr ((wr ((wr (c.l_.f (Int.toNat (wr ((wr (c.at_ + (1 : Int))) - (1 : Int)))))) * (256 : Int))) + (wr (c.l_.f (Int.toNat (wr (c.at_ + (1 : Int)))))))) n), (wr ((wr (c.at_ + (1 : Int))) + (1 : Int))))) (.fail)) (
 .fail)) (
 .ite (n != 0) (.leaf ((Int.tmod (wr (c.l_.f (Int.toNat (wr ((wr (c.at_ + (1 : Int))) - (1 : Int)))))) n), (wr (c.at_ + (1 : Int))))) (.fail))) (
 .ite (n != 0) (.leaf ((Int.tmod (wr (c.l_.f (Int.toNat (wr ((wr (c.at_ + (1 : Int))) - (1 : Int)))))) n), (wr (c.at_ + (1 : Int))))) (.fail))) (
 .fail)))
noncomputable def Codes_Next_m : FnM := nfM (SCodes × Int) (Int × Int) (fun p => ([.ptr 0 0, .int .i64 p.2], [.var (SCodes.enc p.1)])) (fun p => Codes_Next_t p.1 p.2) (fun r => .int .i64 r.1) (fun ins r => [.var [cellB ins 0 0, .int .i64 r.2]])
noncomputable def Codes_Next_env : Env := envM [] [] [] [] [] 1
theorem Codes_Next_tells : Tells Try.prog 23 Codes_Next_m.c := Codes_Next_m.tells Try.func23 (show ∀ p, arun Codes_Next_env Try.f23 (Codes_Next_m.enc p).1 (Codes_Next_m.enc p).2 = _ from fun p => by kernel_rfl) noLoops .nil
noncomputable def Codes_Next (c : SCodes) (n : Int) : Option (Int × Int) := Codes_Next_m.val (c, n)
theorem Codes_Next_eq (c : SCodes) (n : Int) : Codes_Next c n = (Codes_Next_t c n).get := Codes_Next_m.val_eq (fun x => (SCodes.dec (varL (dB x.2 0)), intA (gd x.1 1))) (fun p => by kernel_rfl) (c, n)

/-! (*minecontrol/minecontroldraw.Codes).Range -/
noncomputable def Codes_Range_t (c : SCodes) (low high : Int) : DT (Int × Int) :=
 .bind (Codes_Next c (wr ((wr (high - low)) + (1 : Int)))) fun z0 =>
 .leaf ((wr (low + z0.1)), z0.2)
noncomputable def Codes_Range_m : FnM := nfM (SCodes × Int × Int) (Int × Int) (fun p => ([.ptr 0 0, .int .i64 p.2.1, .int .i64 p.2.2], [.var (SCodes.enc p.1)])) (fun p => Codes_Range_t p.1 p.2.1 p.2.2) (fun r => .int .i64 r.1) (fun ins r => [.var [cellB ins 0 0, .int .i64 r.2]])
noncomputable def Codes_Range_env : Env := envM [(23, Codes_Next_m.c)] [] [] [] [] 1
theorem Codes_Range_tells : Tells Try.prog 24 Codes_Range_m.c := Codes_Range_m.tells Try.func24 (show ∀ p, arun Codes_Range_env Try.f24 (Codes_Range_m.enc p).1 (Codes_Range_m.enc p).2 = _ from fun p => by kernel_rfl) noLoops (.cons Codes_Next_tells .nil)
noncomputable def Codes_Range (c : SCodes) (low high : Int) : Option (Int × Int) := Codes_Range_m.val (c, low, high)
theorem Codes_Range_eq (c : SCodes) (low high : Int) : Codes_Range c low high = (Codes_Range_t c low high).get := Codes_Range_m.val_eq (fun x => (SCodes.dec (varL (dB x.2 0)), intA (gd x.1 1), intA (gd x.1 2))) (fun p => by kernel_rfl) (c, low, high)

/-! (*minecontrol/minecontroldraw.Codes).One -/
noncomputable def Codes_One_t (c : SCodes) (n : Int) : DT (Bool × Int) :=
 .bind (Codes_Next c n) fun z0 =>
 .leaf ((z0.1 == (wr (n - (1 : Int)))), z0.2)
noncomputable def Codes_One_m : FnM := nfM (SCodes × Int) (Bool × Int) (fun p => ([.ptr 0 0, .int .i64 p.2], [.var (SCodes.enc p.1)])) (fun p => Codes_One_t p.1 p.2) (fun r => .bool r.1) (fun ins r => [.var [cellB ins 0 0, .int .i64 r.2]])
noncomputable def Codes_One_env : Env := envM [(23, Codes_Next_m.c)] [] [] [] [] 1
theorem Codes_One_tells : Tells Try.prog 25 Codes_One_m.c := Codes_One_m.tells Try.func25 (show ∀ p, arun Codes_One_env Try.f25 (Codes_One_m.enc p).1 (Codes_One_m.enc p).2 = _ from fun p => by kernel_rfl) noLoops (.cons Codes_Next_tells .nil)
noncomputable def Codes_One (c : SCodes) (n : Int) : Option (Bool × Int) := Codes_One_m.val (c, n)
theorem Codes_One_eq (c : SCodes) (n : Int) : Codes_One c n = (Codes_One_t c n).get := Codes_One_m.val_eq (fun x => (SCodes.dec (varL (dB x.2 0)), intA (gd x.1 1))) (fun p => by kernel_rfl) (c, n)

/-! (*minecontrol/minecontroldraw.Codes).Road -/
noncomputable def Codes_Road_t (c : SCodes) (from_ to_ : Int) : DT (SRoad × Int) :=
 .bind (Codes_Range c (1 : Int) (400 : Int)) fun z0 =>
 .bind (Codes_Range (SCodes.mk c.l_ z0.2) (4 : Int) (30 : Int)) fun z1 =>
 .bind (Codes_Next (SCodes.mk c.l_ z1.2) (4 : Int)) fun z2 =>
 .bind (Codes_Range (SCodes.mk c.l_ z2.2) (1 : Int) (20 : Int)) fun z3 =>
 .bind (Codes_Next (SCodes.mk c.l_ z3.2) (3 : Int)) fun z4 =>
 .bind (Codes_Range (SCodes.mk c.l_ z4.2) (-300 : Int) (300 : Int)) fun z5 =>
 .bind (Codes_Next (SCodes.mk c.l_ z5.2) (20 : Int)) fun z6 =>
 .leaf ((SRoad.mk from_ to_ z0.1 z1.1 (decide (z2.1 > (0 : Int))) false (SSpan.mk z3.1 (wr (z3.1 + z4.1))) (SSpan.mk z5.1 (wr (z5.1 + z6.1)))), z6.2)
noncomputable def Codes_Road_m : FnM := nfM (SCodes × Int × Int) (SRoad × Int) (fun p => ([.ptr 0 0, .int .i64 p.2.1, .int .i64 p.2.2], [.var (SCodes.enc p.1)])) (fun p => Codes_Road_t p.1 p.2.1 p.2.2) (fun r => .agg (SRoad.enc r.1)) (fun ins r => [.var [cellB ins 0 0, .int .i64 r.2]])
noncomputable def Codes_Road_env : Env := envM [(24, Codes_Range_m.c), (23, Codes_Next_m.c)] [] [] [] [] 1
theorem Codes_Road_tells : Tells Try.prog 26 Codes_Road_m.c := Codes_Road_m.tells Try.func26 (show ∀ p, arun Codes_Road_env Try.f26 (Codes_Road_m.enc p).1 (Codes_Road_m.enc p).2 = _ from fun p => by kernel_rfl) noLoops (.cons Codes_Range_tells (.cons Codes_Next_tells .nil))
noncomputable def Codes_Road (c : SCodes) (from_ to_ : Int) : Option (SRoad × Int) := Codes_Road_m.val (c, from_, to_)
theorem Codes_Road_eq (c : SCodes) (from_ to_ : Int) : Codes_Road c from_ to_ = (Codes_Road_t c from_ to_).get := Codes_Road_m.val_eq (fun x => (SCodes.dec (varL (dB x.2 0)), intA (gd x.1 1), intA (gd x.1 2))) (fun p => by kernel_rfl) (c, from_, to_)

/-! (*minecontrol/minecontroldraw.Codes).Mine -/
noncomputable def Codes_Mine_l3_step (u3_1 : Sq Int) (u3_0 u3_2 : Int) (u3_3 : Sq SPlace) : DT (LR (Int × Int × (Sq SPlace)) (Int × (Sq SPlace)) (Unit)) :=
 .ite (decide (u3_0 > (0 : Int))) (
 .bind (Codes_Range (SCodes.mk u3_1 u3_2) (-60 : Int) (60 : Int)) fun z0 =>
 .bind (Codes_One (SCodes.mk u3_1 z0.2) (5 : Int)) fun z1 =>
 .ite (decide ((u3_3.n + 1) * 16 ≤ 140737488355328 ∧ (u3_3.n + 1) ≤ 1099511627776)) (
 .leaf (.next ((wr (u3_0 - (1 : Int))), z1.2, (Sq.mk (u3_3.n + 1) (fun k0 => (SPlace.mk (cond (Nat.blt k0 u3_3.n) (u3_3.f k0).Height z0.1) (cond (Nat.blt k0 u3_3.n) (u3_3.f k0).Surface z1.1))))))) (
 .fail)) (
 .leaf (.l (u3_2, u3_3)))
noncomputable def Codes_Mine_l3_m : LpM := ⟨(Sq Int), Int × Int × (Sq SPlace), Int × (Sq SPlace), Unit, fun p => ⟨[(0, .ptr 0 0), (2, .ptr 1 0), (3, .ptr 257 0), (4, .int .i64 p.2.1)], [(0, .var [sqA 1 (eI .u8) p.1, .int .i64 p.2.2.1]), (1, .var [.own 2 0, .own 3 0]), (2, .nilrow 0), (3, .nilrow 0), (129, rowA 0 2 50 SPlace.enc p.2.2.2), (194, .nilrow 0), (257, .var [.own 129 0, .own 194 0])], 641⟩, fun f v => Codes_Mine_l3_step f v.1 v.2.1 v.2.2, true, (.exit 0), (fun x a => ⟨[(0, .ptr 0 0), (2, .ptr 1 0), (3, .ptr 257 0)], [(0, .var [cellS x 0 0, .int .i64 a.1]), (1, .var [.own 2 0, .own 3 0]), (2, .nilrow 0), (3, .nilrow 0), (129, rowA 0 2 50 SPlace.enc a.2), (194, .nilrow 0), (257, .var [.own 129 0, .own 194 0])], 641⟩), .ret, (fun _ _ => ⟨[], [], 0⟩)⟩
noncomputable def Codes_Mine_l3 (u3_1 : Sq Int) (u3_0 u3_2 : Int) (u3_3 : Sq SPlace) : Option ((Int × (Sq SPlace)) ⊕ (Unit)) := Codes_Mine_l3_m.val (u3_1, (u3_0, u3_2, u3_3))
theorem Codes_Mine_l3_eq (u3_1 : Sq Int) (u3_0 u3_2 : Int) (u3_3 : Sq SPlace) : Codes_Mine_l3 u3_1 u3_0 u3_2 u3_3 = fixO (fun v : Int × Int × (Sq SPlace) => Codes_Mine_l3_step u3_1 v.1 v.2.1 v.2.2) (u3_0, u3_2, u3_3) := Codes_Mine_l3_m.val_eq (fun x => (sqD dI (cellS x 0 0), (intA (aget x.tm 4), intA (cellS x 0 1), sqB SPlace.dec (blkS x 129)))) (fun p => by kernel_rfl) (u3_1, (u3_0, u3_2, u3_3))
noncomputable def Codes_Mine_l8_step (u8_2 : Sq Int) (u8_4 : Sq SPlace) (u8_1 u8_3 : Int) (u8_5 : Sq SRoad) : DT (LR (Int × Int × (Sq SRoad)) (Int × (Sq SRoad)) (Unit)) :=
 .ite (decide (u8_1 > (0 : Int))) (
 .bind (Codes_Next (SCodes.mk u8_2 u8_3) ((u8_4.n : Nat) : Int)) fun z2 =>
 .bind (Codes_Next (SCodes.mk u8_2 z2.2) (wr (((u8_4.n : Nat) : Int) - (1 : Int)))) fun z3 =>
 .ite (((u8_4.n : Nat) : Int) != 0) (
 .bind (Codes_Road (SCodes.mk u8_2 z3.2) z2.1 (Int.tmod (wr ((wr (z2.1 + (1 : Int))) + z3.1)) ((u8_4.n : Nat) : Int))) fun z4 =>
 .bind (Codes_One (SCodes.mk u8_2 z4.2) (6 : Int)) fun z5 =>
 .ite (decide ((u8_5.n + 1) * 72 ≤ 140737488355328 ∧ (u8_5.n + 1) ≤ 1099511627776)) (
 .leaf (.next ((wr (u8_1 - (1 : Int))), z5.2, (Sq.mk (u8_5.n + 1) (fun k1 => (SRoad.mk (cond (Nat.blt k1 u8_5.n) (u8_5.f k1).From z4.1.From) (cond (Nat.blt k1 u8_5.n) (u8_5.f k1).To z4.1.To) (cond (Nat.blt k1 u8_5.n) (u8_5.f k1).Length z4.1.Length) (cond (Nat.blt k1 u8_5.n) (u8_5.f k1).Area z4.1.Area) (cond (Nat.blt k1 u8_5.n) (u8_5.f k1).Walk z4.1.Walk) (cond (Nat.blt k1 u8_5.n) (u8_5.f k1).Closed z5.1) (SSpan.mk (cond (Nat.blt k1 u8_5.n) (u8_5.f k1).Rest.Low z4.1.Rest.Low) (cond (Nat.blt k1 u8_5.n) (u8_5.f k1).Rest.High z4.1.Rest.High)) (SSpan.mk (cond (Nat.blt k1 u8_5.n) (u8_5.f k1).Lift.Low z4.1.Lift.Low) (cond (Nat.blt k1 u8_5.n) (u8_5.f k1).Lift.High z4.1.Lift.High)))))))) (
 .fail)) (
 .fail)) (
 .leaf (.l (u8_3, u8_5)))
noncomputable def Codes_Mine_l8_m : LpM := ⟨(Sq Int) × (Sq SPlace), Int × Int × (Sq SRoad), Int × (Sq SRoad), Unit, fun p => ⟨[(0, .ptr 0 0), (2, .ptr 1 0), (3, .ptr 257 0), (5, .int .i64 ((p.1.2.n : Nat) : Int)), (6, .int .i64 p.2.1)], [(0, .var [sqA 1 (eI .u8) p.1.1, .int .i64 p.2.2.1]), (1, .var [.own 2 0, .own 3 0]), (2, .nilrow 0), (3, .nilrow 0), (129, rowA 0 2 50 SPlace.enc p.1.2), (194, rowA 0 10 45 SRoad.enc p.2.2.2), (257, .var [.own 129 0, .own 194 0])], 1089⟩, fun f v => Codes_Mine_l8_step f.1 f.2 v.1 v.2.1 v.2.2, true, (.exit 2), (fun x a => ⟨[(2, .ptr 1 0), (3, .ptr 257 0)], [(0, .var [cellS x 0 0, .int .i64 a.1]), (1, .var [.own 2 0, .own 3 0]), (2, .nilrow 0), (3, .nilrow 0), (129, blkS x 129), (194, rowA 0 10 45 SRoad.enc a.2), (257, .var [.own 129 0, .own 194 0])], 1089⟩), .ret, (fun _ _ => ⟨[], [], 0⟩)⟩
noncomputable def Codes_Mine_l8 (u8_2 : Sq Int) (u8_4 : Sq SPlace) (u8_1 u8_3 : Int) (u8_5 : Sq SRoad) : Option ((Int × (Sq SRoad)) ⊕ (Unit)) := Codes_Mine_l8_m.val ((u8_2, u8_4), (u8_1, u8_3, u8_5))
theorem Codes_Mine_l8_eq (u8_2 : Sq Int) (u8_4 : Sq SPlace) (u8_1 u8_3 : Int) (u8_5 : Sq SRoad) : Codes_Mine_l8 u8_2 u8_4 u8_1 u8_3 u8_5 = fixO (fun v : Int × Int × (Sq SRoad) => Codes_Mine_l8_step u8_2 u8_4 v.1 v.2.1 v.2.2) (u8_1, u8_3, u8_5) := Codes_Mine_l8_m.val_eq (fun x => ((sqD dI (cellS x 0 0), sqB SPlace.dec (blkS x 129)), (intA (aget x.tm 6), intA (cellS x 0 1), sqB SRoad.dec (blkS x 194)))) (fun p => by kernel_rfl) ((u8_2, u8_4), (u8_1, u8_3, u8_5))
noncomputable def Codes_Mine_t (c : SCodes) : DT (SMine × Int) :=
 .bind (Codes_Next c (6 : Int)) fun z6 =>
 .sum (Codes_Mine_l3 c.l_ (wr ((1 : Int) + z6.1)) z6.2 (Sq.mk 1 (fun _ => (SPlace.mk (0 : Int) true)))) (fun y0 =>
 .bind (Codes_Next (SCodes.mk c.l_ y0.1) (9 : Int)) fun z7 =>
 .sum (Codes_Mine_l8 c.l_ y0.2 z7.1 z7.2 (Sq.mk 0 (fun _ => (SRoad.mk (0 : Int) (0 : Int) (0 : Int) (0 : Int) false false (SSpan.mk (0 : Int) (0 : Int)) (SSpan.mk (0 : Int) (0 : Int)))))) (fun y1 =>
 .leaf ((SMine.mk y0.2 y1.2), y1.1)) (fun _ => .fail)) (fun _ => .fail)
noncomputable def Codes_Mine_m : FnM := nfM (SCodes) (SMine × Int) (fun p => ([.ptr 0 0], [.var (SCodes.enc p)])) (fun p => Codes_Mine_t p) (fun _ => .agg [.own 1 0, .own 2 0]) (fun ins r => [.var [cellB ins 0 0, .int .i64 r.2], rowA 0 2 50 SPlace.enc r.1.Places, rowA 0 10 45 SRoad.enc r.1.Roads])
noncomputable def Codes_Mine_env : Env := envM [(23, Codes_Next_m.c), (24, Codes_Range_m.c), (25, Codes_One_m.c), (26, Codes_Road_m.c)] [(3, [0, 2, 3, 4], [0, 2, 3]), (8, [0, 2, 3, 5, 6], [2, 3])] [(3, Codes_Mine_l3_m.c), (8, Codes_Mine_l8_m.c)] [(1000008, [.asrow 194 45 10 (fun _ => SRoad.enc (SRoad.mk (0 : Int) (0 : Int) (0 : Int) (0 : Int) false false (SSpan.mk (0 : Int) (0 : Int)) (SSpan.mk (0 : Int) (0 : Int))))])] [(3, [0, 1, 2, 3, 129, 194, 257]), (8, [0, 1, 2, 3, 129, 194, 257])] 1
noncomputable def Codes_Mine_e : Env := { Codes_Mine_env with nt := 63 }
theorem Codes_Mine_l3_tells : LoopTells Codes_Mine_e (loopOf 3 Try.f7) Codes_Mine_l3_m.c := Codes_Mine_l3_m.tells 641 (fun _ => by kernel_rfl) (fun _ _ _ _ => by kernel_rfl) (fun _ _ _ _ => by kernel_rfl) fun R f v N K => by kernel_rfl
theorem Codes_Mine_l8_tells : LoopTells Codes_Mine_e (loopOf 8 Try.f7) Codes_Mine_l8_m.c := Codes_Mine_l8_m.tells 1089 (fun _ => by kernel_rfl) (fun _ _ _ _ => by kernel_rfl) (fun _ _ _ _ => by kernel_rfl) fun R f v N K => by kernel_rfl
theorem Codes_Mine_tells : Tells Try.prog 7 Codes_Mine_m.c := Codes_Mine_m.tells Try.func7 (show ∀ p, arun Codes_Mine_env Try.f7 (Codes_Mine_m.enc p).1 (Codes_Mine_m.enc p).2 = _ from fun p => by kernel_rfl) (loopsL [loopOf 3 Try.f7, loopOf 8 Try.f7] (by kernel_rfl) ⟨lpT (by kernel_rfl) Codes_Mine_l3_tells, ⟨lpT (by kernel_rfl) Codes_Mine_l8_tells, trivial⟩⟩) (.cons Codes_Next_tells (.cons Codes_Range_tells (.cons Codes_One_tells (.cons Codes_Road_tells .nil))))
noncomputable def Codes_Mine (c : SCodes) : Option (SMine × Int) := Codes_Mine_m.val c
theorem Codes_Mine_eq (c : SCodes) : Codes_Mine c = (Codes_Mine_t c).get := Codes_Mine_m.val_eq (fun x => SCodes.dec (varL (dB x.2 0))) (fun p => by kernel_rfl) c

/-! minecontrol/plan.within -/
noncomputable def plan_within_t (n low high : Int) : DT (Bool) :=
 .ite (decide (low ≤ n)) (.leaf (decide (n ≤ high))) (.leaf false)
noncomputable def plan_within_m : FnM := flM (Int × Int × Int) (Bool) (fun p => ([.int .i64 p.1, .int .i64 p.2.1, .int .i64 p.2.2], [])) (fun p => plan_within_t p.1 p.2.1 p.2.2) (fun r => .bool r) (fun _ => rfl)
noncomputable def plan_within_env : Env := envM [] [] [] [] [] 0
theorem plan_within_tells : Tells Try.prog 39 plan_within_m.c := plan_within_m.tells Try.func39 (show ∀ p, arun plan_within_env Try.f39 (plan_within_m.enc p).1 (plan_within_m.enc p).2 = _ from fun p => by kernel_rfl) noLoops .nil
noncomputable def plan_within (n low high : Int) : Option (Bool) := plan_within_m.val (n, low, high)
theorem plan_within_eq (n low high : Int) : plan_within n low high = (plan_within_t n low high).get := plan_within_m.val_eq (fun x => (intA (gd x.1 0), intA (gd x.1 1), intA (gd x.1 2))) (fun p => by kernel_rfl) (n, low, high)

/-! minecontrol/plan.spans -/
noncomputable def plan_spans_t (s : SSpan) (low high : Int) : DT (Bool) :=
 .ite (decide (low ≤ s.Low)) (
 .ite (decide (s.Low ≤ s.High)) (.leaf (decide (s.High ≤ high))) (.leaf false)) (
 .leaf false)
noncomputable def plan_spans_m : FnM := flM (SSpan × Int × Int) (Bool) (fun p => ([.agg (SSpan.enc p.1), .int .i64 p.2.1, .int .i64 p.2.2], [])) (fun p => plan_spans_t p.1 p.2.1 p.2.2) (fun r => .bool r) (fun _ => rfl)
noncomputable def plan_spans_env : Env := envM [] [] [] [] [] 0
theorem plan_spans_tells : Tells Try.prog 57 plan_spans_m.c := plan_spans_m.tells Try.func57 (show ∀ p, arun plan_spans_env Try.f57 (plan_spans_m.enc p).1 (plan_spans_m.enc p).2 = _ from fun p => by kernel_rfl) noLoops .nil
noncomputable def plan_spans (s : SSpan) (low high : Int) : Option (Bool) := plan_spans_m.val (s, low, high)
theorem plan_spans_eq (s : SSpan) (low high : Int) : plan_spans s low high = (plan_spans_t s low high).get := plan_spans_m.val_eq (fun x => (SSpan.dec (aggL (gd x.1 0)), intA (gd x.1 1), intA (gd x.1 2))) (fun p => by kernel_rfl) (s, low, high)

/-! minecontrol/plan.checkRoad -/
noncomputable def plan_checkRoad_t (r : SRoad) (places : Int) : DT (Int) :=
 .bind (plan_within r.From (0 : Int) (wr (places - (1 : Int)))) fun z0 =>
 .ite (!z0) (
 .leaf (4 : Int)) (
 .bind (plan_within r.To (0 : Int) (wr (places - (1 : Int)))) fun z1 =>
 .ite (!z1) (
 .leaf (4 : Int)) (
 .ite (r.From == r.To) (
 .leaf (4 : Int)) (
 .bind (plan_within r.Length (1 : Int) (100000 : Int)) fun z2 =>
 .ite (!z2) (
 .leaf (1 : Int)) (
 .bind (plan_within r.Area (1 : Int) (1000 : Int)) fun z3 =>
 .ite (!z3) (
 .leaf (1 : Int)) (
 .bind (plan_spans r.Rest (1 : Int) (262144 : Int)) fun z4 =>
 .ite (!z4) (
 .leaf (1 : Int)) (
 .bind (plan_spans r.Lift (-2199023255552 : Int) (2199023255552 : Int)) fun z5 =>
 .ite (!z5) (.leaf (1 : Int)) (.leaf (0 : Int))))))))
noncomputable def plan_checkRoad_m : FnM := flM (SRoad × Int) (Int) (fun p => ([.agg (SRoad.enc p.1), .int .i64 p.2], [])) (fun p => plan_checkRoad_t p.1 p.2) (fun r => .int .i64 r) (fun _ => rfl)
noncomputable def plan_checkRoad_env : Env := envM [(39, plan_within_m.c), (57, plan_spans_m.c)] [] [] [] [] 0
theorem plan_checkRoad_tells : Tells Try.prog 44 plan_checkRoad_m.c := plan_checkRoad_m.tells Try.func44 (show ∀ p, arun plan_checkRoad_env Try.f44 (plan_checkRoad_m.enc p).1 (plan_checkRoad_m.enc p).2 = _ from fun p => by kernel_rfl) noLoops (.cons plan_within_tells (.cons plan_spans_tells .nil))
noncomputable def plan_checkRoad (r : SRoad) (places : Int) : Option (Int) := plan_checkRoad_m.val (r, places)
theorem plan_checkRoad_eq (r : SRoad) (places : Int) : plan_checkRoad r places = (plan_checkRoad_t r places).get := plan_checkRoad_m.val_eq (fun x => (SRoad.dec (aggL (gd x.1 0)), intA (gd x.1 1))) (fun p => by kernel_rfl) (r, places)

/-! minecontrol/plan.Check -/
noncomputable def plan_Check_l4_step (u4_0 : Sq SPlace) (_u4_2 : Sq SRoad) (u4_3 : Int) : DT (LR (Int) (Unit) (Unit)) :=
 .ite (decide (u4_3 < ((u4_0.n : Nat) : Int))) (
 .ite (decide ((0 : Int) ≤ u4_3 ∧ u4_3 < ((u4_0.n : Nat) : Int))) (
 .bind (plan_within (u4_0.f (Int.toNat u4_3)).Height (-10000 : Int) (10000 : Int)) fun z0 =>
 .ite (!z0) (
 .leaf (.r ())) (
 .leaf (.next (wr (u4_3 + (1 : Int)))))) (
 .fail)) (
 .leaf (.l ()))
noncomputable def plan_Check_l4_m : LpM := ⟨(Sq SPlace) × (Sq SRoad), Int, Unit, Unit, fun p => ⟨[(1, .ptr 0 0), (19, sqA 2 SPlace.enc p.1.1), (20, .int .i64 ((p.1.1.n : Nat) : Int)), (21, .int .i64 p.2)], [(0, .var [sqA 2 SPlace.enc p.1.1, sqA 10 SRoad.enc p.1.2])], 1088⟩, fun f v => plan_Check_l4_step f.1 f.2 v, false, (.exit 0), (fun x _ => ⟨[(1, .ptr 0 0), (2, .undef)], [(0, blkS x 0)], 1088⟩), .ret, (fun x _ => ⟨[(1, .ptr 0 0), (2, .int .i64 (1 : Int))], [(0, blkS x 0)], 1088⟩)⟩
noncomputable def plan_Check_l4 (u4_0 : Sq SPlace) (u4_2 : Sq SRoad) (u4_3 : Int) : Option ((Unit) ⊕ (Unit)) := plan_Check_l4_m.val ((u4_0, u4_2), u4_3)
theorem plan_Check_l4_eq (u4_0 : Sq SPlace) (u4_2 : Sq SRoad) (u4_3 : Int) : plan_Check_l4 u4_0 u4_2 u4_3 = fixO (fun v : Int => plan_Check_l4_step u4_0 u4_2 v) u4_3 := plan_Check_l4_m.val_eq (fun x => ((sqD SPlace.dec (aget x.tm 19), sqD SRoad.dec (cellS x 0 1)), intA (aget x.tm 21))) (fun p => by kernel_rfl) ((u4_0, u4_2), u4_3)
noncomputable def plan_Check_l10_step (u10_0 : Sq SRoad) (u10_2 : Sq SPlace) (u10_3 : Int) : DT (LR (Int) (Unit) (Int)) :=
 .ite (decide (u10_3 < ((u10_0.n : Nat) : Int))) (
 .ite (decide ((0 : Int) ≤ u10_3 ∧ u10_3 < ((u10_0.n : Nat) : Int))) (
 .bind (plan_checkRoad (u10_0.f (Int.toNat u10_3)) ((u10_2.n : Nat) : Int)) fun z1 =>
 .ite (z1 != (0 : Int)) (
 .leaf (.r z1)) (
 .leaf (.next (wr (u10_3 + (1 : Int)))))) (
 .fail)) (
 .leaf (.l ()))
noncomputable def plan_Check_l10_m : LpM := ⟨(Sq SRoad) × (Sq SPlace), Int, Unit, Int, fun p => ⟨[(1, .ptr 0 0), (31, sqA 10 SRoad.enc p.1.1), (32, .int .i64 ((p.1.1.n : Nat) : Int)), (33, .int .i64 p.2)], [(0, .var [sqA 2 SPlace.enc p.1.2, sqA 10 SRoad.enc p.1.1])], 1344⟩, fun f v => plan_Check_l10_step f.1 f.2 v, false, (.exit 2), (fun x _ => ⟨[(2, .undef)], [(0, blkS x 0)], 1344⟩), .ret, (fun x a => ⟨[(2, .int .i64 a)], [(0, blkS x 0)], 1344⟩)⟩
noncomputable def plan_Check_l10 (u10_0 : Sq SRoad) (u10_2 : Sq SPlace) (u10_3 : Int) : Option ((Unit) ⊕ (Int)) := plan_Check_l10_m.val ((u10_0, u10_2), u10_3)
theorem plan_Check_l10_eq (u10_0 : Sq SRoad) (u10_2 : Sq SPlace) (u10_3 : Int) : plan_Check_l10 u10_0 u10_2 u10_3 = fixO (fun v : Int => plan_Check_l10_step u10_0 u10_2 v) u10_3 := plan_Check_l10_m.val_eq (fun x => ((sqD SRoad.dec (aget x.tm 31), sqD SPlace.dec (cellS x 0 0)), intA (aget x.tm 33))) (fun p => by kernel_rfl) ((u10_0, u10_2), u10_3)
noncomputable def plan_Check_t (m : SMine) : DT (Int) :=
 .ite (decide (((m.Places.n : Nat) : Int) > (64 : Int))) (
 .leaf (2 : Int)) (
 .ite (decide (((m.Roads.n : Nat) : Int) > (128 : Int))) (
 .leaf (2 : Int)) (
 .sum (plan_Check_l4 m.Places m.Roads (0 : Int)) (fun _ =>
 .sum (plan_Check_l10 m.Roads m.Places (0 : Int)) (fun _ =>
 .leaf (0 : Int)) (fun y0 => .leaf y0)) (fun _ => .leaf (1 : Int))))
noncomputable def plan_Check_m : FnM := flM (SMine) (Int) (fun p => ([.agg (SMine.enc p)], [])) (fun p => plan_Check_t p) (fun r => .int .i64 r) (fun _ => rfl)
noncomputable def plan_Check_env : Env := envM [(39, plan_within_m.c), (44, plan_checkRoad_m.c)] [(4, [1, 19, 20, 21], [1, 2]), (10, [1, 31, 32, 33], [2])] [(4, plan_Check_l4_m.c), (10, plan_Check_l10_m.c)] [] [(4, [0]), (10, [0])] 0
noncomputable def plan_Check_e : Env := { plan_Check_env with nt := 46 }
theorem plan_Check_l4_tells : LoopTells plan_Check_e (loopOf 4 Try.f36) plan_Check_l4_m.c := plan_Check_l4_m.tells 1088 (fun _ => by kernel_rfl) (fun _ _ _ _ => by kernel_rfl) (fun _ _ _ _ => by kernel_rfl) fun R f v N K => by kernel_rfl
theorem plan_Check_l10_tells : LoopTells plan_Check_e (loopOf 10 Try.f36) plan_Check_l10_m.c := plan_Check_l10_m.tells 1344 (fun _ => by kernel_rfl) (fun _ _ _ _ => by kernel_rfl) (fun _ _ _ _ => by kernel_rfl) fun R f v N K => by kernel_rfl
theorem plan_Check_tells : Tells Try.prog 36 plan_Check_m.c := plan_Check_m.tells Try.func36 (show ∀ p, arun plan_Check_env Try.f36 (plan_Check_m.enc p).1 (plan_Check_m.enc p).2 = _ from fun p => by kernel_rfl) (loopsL [loopOf 4 Try.f36, loopOf 10 Try.f36] (by kernel_rfl) ⟨lpT (by kernel_rfl) plan_Check_l4_tells, ⟨lpT (by kernel_rfl) plan_Check_l10_tells, trivial⟩⟩) (.cons plan_within_tells (.cons plan_checkRoad_tells .nil))
noncomputable def plan_Check (m : SMine) : Option (Int) := plan_Check_m.val m
theorem plan_Check_eq (m : SMine) : plan_Check m = (plan_Check_t m).get := plan_Check_m.val_eq (fun x => SMine.dec (aggL (gd x.1 0))) (fun p => by kernel_rfl) m

/-! minecontrol/plan.Valid -/
noncomputable def plan_Valid_t (m : SMine) : DT (Bool) :=
 .bind (plan_Check m) fun z0 =>
 .leaf (z0 == (0 : Int))
noncomputable def plan_Valid_m : FnM := flM (SMine) (Bool) (fun p => ([.agg (SMine.enc p)], [])) (fun p => plan_Valid_t p) (fun r => .bool r) (fun _ => rfl)
noncomputable def plan_Valid_env : Env := envM [(36, plan_Check_m.c)] [] [] [] [] 0
theorem plan_Valid_tells : Tells Try.prog 33 plan_Valid_m.c := plan_Valid_m.tells Try.func33 (show ∀ p, arun plan_Valid_env Try.f33 (plan_Valid_m.enc p).1 (plan_Valid_m.enc p).2 = _ from fun p => by kernel_rfl) noLoops (.cons plan_Check_tells .nil)
noncomputable def plan_Valid (m : SMine) : Option (Bool) := plan_Valid_m.val m
theorem plan_Valid_eq (m : SMine) : plan_Valid m = (plan_Valid_t m).get := plan_Valid_m.val_eq (fun x => SMine.dec (aggL (gd x.1 0))) (fun p => by kernel_rfl) m

/-! minecontrol/plan.Roads -/
noncomputable def plan_Roads_l3_step (u3_0 : Int) (u3_1 : Sq SRoad) (u3_3 : Sq Int) (u3_4 : Int) : DT (LR ((Sq Int) × Int) ((Sq Int)) (Unit)) :=
 .ite (decide (u3_4 < ((u3_1.n : Nat) : Int))) (
 .ite (decide ((0 : Int) ≤ u3_4 ∧ u3_4 < ((u3_1.n : Nat) : Int))) (
 .ite ((u3_1.f (Int.toNat u3_4)).From == u3_0) (
 .ite (decide ((u3_3.n + 1) * 8 ≤ 140737488355328 ∧ (u3_3.n + 1) ≤ 1099511627776)) (
 .leaf (.next ((Sq.mk (u3_3.n + 1) (fun k0 => (cond (Nat.blt k0 u3_3.n) (u3_3.f k0) u3_4))), (wr (u3_4 + (1 : Int)))))) (
 .fail)) (
 .ite ((u3_1.f (Int.toNat u3_4)).To == u3_0) (
 .ite (decide ((u3_3.n + 1) * 8 ≤ 140737488355328 ∧ (u3_3.n + 1) ≤ 1099511627776)) (
 .leaf (.next ((Sq.mk (u3_3.n + 1) (fun k1 => (cond (Nat.blt k1 u3_3.n) (u3_3.f k1) u3_4))), (wr (u3_4 + (1 : Int)))))) (
 .fail)) (
 .leaf (.next (u3_3, (wr (u3_4 + (1 : Int)))))))) (
 .fail)) (
 .leaf (.l u3_3))
noncomputable def plan_Roads_l3_m : LpM := ⟨Int × (Sq SRoad), (Sq Int) × Int, (Sq Int), Unit, fun p => ⟨[(1, .int .i64 p.1.1), (5, .own 128 0), (9, sqA 10 SRoad.enc p.1.2), (10, .int .i64 ((p.1.2.n : Nat) : Int)), (11, .int .i64 p.2.2)], [(128, rowA 0 1 3 (eI .i64) p.2.1)], 448⟩, fun f v => plan_Roads_l3_step f.1 f.2 v.1 v.2, true, (.exit 0), (fun _ a => ⟨[(5, .own 128 0)], [(128, rowA 0 1 3 (eI .i64) a)], 448⟩), .ret, (fun _ _ => ⟨[], [], 0⟩)⟩
noncomputable def plan_Roads_l3 (u3_0 : Int) (u3_1 : Sq SRoad) (u3_3 : Sq Int) (u3_4 : Int) : Option (((Sq Int)) ⊕ (Unit)) := plan_Roads_l3_m.val ((u3_0, u3_1), (u3_3, u3_4))
theorem plan_Roads_l3_eq (u3_0 : Int) (u3_1 : Sq SRoad) (u3_3 : Sq Int) (u3_4 : Int) : plan_Roads_l3 u3_0 u3_1 u3_3 u3_4 = fixO (fun v : (Sq Int) × Int => plan_Roads_l3_step u3_0 u3_1 v.1 v.2) (u3_3, u3_4) := plan_Roads_l3_m.val_eq (fun x => ((intA (aget x.tm 1), sqD SRoad.dec (aget x.tm 9)), (sqB dI (blkS x 128), intA (aget x.tm 11)))) (fun p => by kernel_rfl) ((u3_0, u3_1), (u3_3, u3_4))
noncomputable def plan_Roads_t (m : SMine) (place : Int) : DT ((Sq Int)) :=
 .sum (plan_Roads_l3 place m.Roads (Sq.mk 0 (fun _ => (0 : Int))) (0 : Int)) (fun y0 =>
 .leaf y0) (fun _ => .fail)
noncomputable def plan_Roads_m : FnM := nfM (SMine × Int) ((Sq Int)) (fun p => ([.agg (SMine.enc p.1), .int .i64 p.2], [])) (fun p => plan_Roads_t p.1 p.2) (fun _ => .own 0 0) (fun _ r => [rowA 0 1 3 (eI .i64) r])
noncomputable def plan_Roads_env : Env := envM [] [(3, [1, 5, 9, 10, 11], [5])] [(3, plan_Roads_l3_m.c)] [(1000003, [.asrow 128 3 1 (fun _ => (eI .i64) (0 : Int))])] [(3, [128])] 0
noncomputable def plan_Roads_e : Env := { plan_Roads_env with nt := 32 }
theorem plan_Roads_l3_tells : LoopTells plan_Roads_e (loopOf 3 Try.f10) plan_Roads_l3_m.c := plan_Roads_l3_m.tells 448 (fun _ => by kernel_rfl) (fun _ _ _ _ => by kernel_rfl) (fun _ _ _ _ => by kernel_rfl) fun R f v N K => by kernel_rfl
theorem plan_Roads_tells : Tells Try.prog 10 plan_Roads_m.c := plan_Roads_m.tells Try.func10 (show ∀ p, arun plan_Roads_env Try.f10 (plan_Roads_m.enc p).1 (plan_Roads_m.enc p).2 = _ from fun p => by kernel_rfl) (loopsL [loopOf 3 Try.f10] (by kernel_rfl) ⟨lpT (by kernel_rfl) plan_Roads_l3_tells, trivial⟩) .nil
noncomputable def plan_Roads (m : SMine) (place : Int) : Option ((Sq Int)) := plan_Roads_m.val (m, place)
theorem plan_Roads_eq (m : SMine) (place : Int) : plan_Roads m place = (plan_Roads_t m place).get := plan_Roads_m.val_eq (fun x => (SMine.dec (aggL (gd x.1 0)), intA (gd x.1 1))) (fun p => by kernel_rfl) (m, place)

/-! minecontrol/plan.hasRoad -/
noncomputable def plan_hasRoad_t (m : SMine) (road : Int) : DT (Bool) :=
 .bind (plan_within road (0 : Int) (wr (((m.Roads.n : Nat) : Int) - (1 : Int)))) fun z0 =>
 .leaf z0
noncomputable def plan_hasRoad_m : FnM := flM (SMine × Int) (Bool) (fun p => ([.agg (SMine.enc p.1), .int .i64 p.2], [])) (fun p => plan_hasRoad_t p.1 p.2) (fun r => .bool r) (fun _ => rfl)
noncomputable def plan_hasRoad_env : Env := envM [(39, plan_within_m.c)] [] [] [] [] 0
theorem plan_hasRoad_tells : Tells Try.prog 27 plan_hasRoad_m.c := plan_hasRoad_m.tells Try.func27 (show ∀ p, arun plan_hasRoad_env Try.f27 (plan_hasRoad_m.enc p).1 (plan_hasRoad_m.enc p).2 = _ from fun p => by kernel_rfl) noLoops (.cons plan_within_tells .nil)
noncomputable def plan_hasRoad (m : SMine) (road : Int) : Option (Bool) := plan_hasRoad_m.val (m, road)
theorem plan_hasRoad_eq (m : SMine) (road : Int) : plan_hasRoad m road = (plan_hasRoad_t m road).get := plan_hasRoad_m.val_eq (fun x => (SMine.dec (aggL (gd x.1 0)), intA (gd x.1 1))) (fun p => by kernel_rfl) (m, road)

/-! minecontrol/plan.Other -/
noncomputable def plan_Other_t (m : SMine) (road place : Int) : DT (Int) :=
 .bind (plan_hasRoad m road) fun z0 =>
 .ite (!z0) (
 .leaf (-1 : Int)) (
 .ite (decide ((0 : Int) ≤ road ∧ road < ((m.Roads.n : Nat) : Int))) (
 .ite (place == (m.Roads.f (Int.toNat road)).From) (
 .leaf (m.Roads.f (Int.toNat road)).To) (
 .ite (place == (m.Roads.f (Int.toNat road)).To) (.leaf (m.Roads.f (Int.toNat road)).From) (.leaf (-1 : Int)))) (
 .fail))
noncomputable def plan_Other_m : FnM := flM (SMine × Int × Int) (Int) (fun p => ([.agg (SMine.enc p.1), .int .i64 p.2.1, .int .i64 p.2.2], [])) (fun p => plan_Other_t p.1 p.2.1 p.2.2) (fun r => .int .i64 r) (fun _ => rfl)
noncomputable def plan_Other_env : Env := envM [(27, plan_hasRoad_m.c)] [] [] [] [] 0
theorem plan_Other_tells : Tells Try.prog 12 plan_Other_m.c := plan_Other_m.tells Try.func12 (show ∀ p, arun plan_Other_env Try.f12 (plan_Other_m.enc p).1 (plan_Other_m.enc p).2 = _ from fun p => by kernel_rfl) noLoops (.cons plan_hasRoad_tells .nil)
noncomputable def plan_Other (m : SMine) (road place : Int) : Option (Int) := plan_Other_m.val (m, road, place)
theorem plan_Other_eq (m : SMine) (road place : Int) : plan_Other m road place = (plan_Other_t m road place).get := plan_Other_m.val_eq (fun x => (SMine.dec (aggL (gd x.1 0)), intA (gd x.1 1), intA (gd x.1 2))) (fun p => by kernel_rfl) (m, road, place)

/-! math/bits.Len64 -/
noncomputable def math_bits_Len64_t (x : Int) : DT (Int) :=
 .ite (decide (x ≥ (4294967296 : Int))) (
 .fail) (
 .ite (decide (x ≥ (65536 : Int))) (
 .fail) (
 .ite (decide (x ≥ (256 : Int))) (
 .ite (decide ((0 : Int) ≤ (IntKind.u8.wrap (x / 2 ^ (Int.toNat (8 : Int)))) ∧ (IntKind.u8.wrap (x / 2 ^ (Int.toNat (8 : Int)))) < ((ByteArray.size (⟨#[0, 1, 2, 2, 3, 3, 3, 3, 4, 4, 4, 4, 4, 4, 4, 4, 5, 5, 5, 5, 5, 5, 5, 5, 5, 5, 5, 5, 5, 5, 5, 5, 6, 6, 6, 6, 6, 6, 6, 6, 6, 6, 6, 6, 6, 6, 6, 6, 6, 6, 6, 6, 6, 6, 6, 6, 6, 6, 6, 6, 6, 6, 6, 6, 7, 7, 7, 7, 7, 7, 7, 7, 7, 7, 7, 7, 7, 7, 7, 7, 7, 7, 7, 7, 7, 7, 7, 7, 7, 7, 7, 7, 7, 7, 7, 7, 7, 7, 7, 7, 7, 7, 7, 7, 7, 7, 7, 7, 7, 7, 7, 7, 7, 7, 7, 7, 7, 7, 7, 7, 7, 7, 7, 7, 7, 7, 7, 7, 8, 8, 8, 8, 8, 8, 8, 8, 8, 8, 8, 8, 8, 8, 8, 8, 8, 8, 8, 8, 8, 8, 8, 8, 8, 8, 8, 8, 8, 8, 8, 8, 8, 8, 8, 8, 8, 8, 8, 8, 8, 8, 8, 8, 8, 8, 8, 8, 8, 8, 8, 8, 8, 8, 8, 8, 8, 8, 8, 8, 8, 8, 8, 8, 8, 8, 8, 8, 8, 8, 8, 8, 8, 8, 8, 8, 8, 8, 8, 8, 8, 8, 8, 8, 8, 8, 8, 8, 8, 8, 8, 8, 8, 8, 8, 8, 8, 8, 8, 8, 8, 8, 8, 8, 8, 8, 8, 8, 8, 8, 8, 8, 8, 8, 8, 8, 8, 8, 8, 8, 8, 8, 8, 8, 8, 8, 8, 8]⟩ : ByteArray) : Nat) : Int))) (.leaf (wr ((8 : Int) + (wr (bytAt (⟨#[0, 1, 2, 2, 3, 3, 3, 3, 4, 4, 4, 4, 4, 4, 4, 4, 5, 5, 5, 5, 5, 5, 5, 5, 5, 5, 5, 5, 5, 5, 5, 5, 6, 6, 6, 6, 6, 6, 6, 6, 6, 6, 6, 6, 6, 6, 6, 6, 6, 6, 6, 6, 6, 6, 6, 6, 6, 6, 6, 6, 6, 6, 6, 6, 7, 7, 7, 7, 7, 7, 7, 7, 7, 7, 7, 7, 7, 7, 7, 7, 7, 7, 7, 7, 7, 7, 7, 7, 7, 7, 7, 7, 7, 7, 7, 7, 7, 7, 7, 7, 7, 7, 7, 7, 7, 7, 7, 7, 7, 7, 7, 7, 7, 7, 7, 7, 7, 7, 7, 7, 7, 7, 7, 7, 7, 7, 7, 7, 8, 8, 8, 8, 8, 8, 8, 8, 8, 8, 8, 8, 8, 8, 8, 8, 8, 8, 8, 8, 8, 8, 8, 8, 8, 8, 8, 8, 8, 8, 8, 8, 8, 8, 8, 8, 8, 8, 8, 8, 8, 8, 8, 8, 8, 8, 8, 8, 8, 8, 8, 8, 8, 8, 8, 8, 8, 8, 8, 8, 8, 8, 8, 8, 8, 8, 8, 8, 8, 8, 8, 8, 8, 8, 8, 8, 8, 8, 8, 8, 8, 8, 8, 8, 8, 8, 8, 8, 8, 8, 8, 8, 8, 8, 8, 8, 8, 8, 8, 8, 8, 8, 8, 8, 8, 8, 8, 8, 8, 8, 8, 8, 8, 8, 8, 8, 8, 8, 8, 8, 8, 8, 8, 8, 8, 8, 8, 8]⟩ : ByteArray) (IntKind.u8.wrap (x / 2 ^ (Int.toNat (8 : Int))))))))) (.fail)) (
 .ite (decide ((0 : Int) ≤ (IntKind.u8.wrap x) ∧ (IntKind.u8.wrap x) < ((ByteArray.size (⟨#[0, 1, 2, 2, 3, 3, 3, 3, 4, 4, 4, 4, 4, 4, 4, 4, 5, 5, 5, 5, 5, 5, 5, 5, 5, 5, 5, 5, 5, 5, 5, 5, 6, 6, 6, 6, 6, 6, 6, 6, 6, 6, 6, 6, 6, 6, 6, 6, 6, 6, 6, 6, 6, 6, 6, 6, 6, 6, 6, 6, 6, 6, 6, 6, 7, 7, 7, 7, 7, 7, 7, 7, 7, 7, 7, 7, 7, 7, 7, 7, 7, 7, 7, 7, 7, 7, 7, 7, 7, 7, 7, 7, 7, 7, 7, 7, 7, 7, 7, 7, 7, 7, 7, 7, 7, 7, 7, 7, 7, 7, 7, 7, 7, 7, 7, 7, 7, 7, 7, 7, 7, 7, 7, 7, 7, 7, 7, 7, 8, 8, 8, 8, 8, 8, 8, 8, 8, 8, 8, 8, 8, 8, 8, 8, 8, 8, 8, 8, 8, 8, 8, 8, 8, 8, 8, 8, 8, 8, 8, 8, 8, 8, 8, 8, 8, 8, 8, 8, 8, 8, 8, 8, 8, 8, 8, 8, 8, 8, 8, 8, 8, 8, 8, 8, 8, 8, 8, 8, 8, 8, 8, 8, 8, 8, 8, 8, 8, 8, 8, 8, 8, 8, 8, 8, 8, 8, 8, 8, 8, 8, 8, 8, 8, 8, 8, 8, 8, 8, 8, 8, 8, 8, 8, 8, 8, 8, 8, 8, 8, 8, 8, 8, 8, 8, 8, 8, 8, 8, 8, 8, 8, 8, 8, 8, 8, 8, 8, 8, 8, 8, 8, 8, 8, 8, 8, 8]⟩ : ByteArray) : Nat) : Int))) (.leaf (wr ((0 : Int) + (wr (bytAt (⟨#[0, 1, 2, 2, 3, 3, 3, 3, 4, 4, 4, 4, 4, 4, 4, 4, 5, 5, 5, 5, 5, 5, 5, 5, 5, 5, 5, 5, 5, 5, 5, 5, 6, 6, 6, 6, 6, 6, 6, 6, 6, 6, 6, 6, 6, 6, 6, 6, 6, 6, 6, 6, 6, 6, 6, 6, 6, 6, 6, 6, 6, 6, 6, 6, 7, 7, 7, 7, 7, 7, 7, 7, 7, 7, 7, 7, 7, 7, 7, 7, 7, 7, 7, 7, 7, 7, 7, 7, 7, 7, 7, 7, 7, 7, 7, 7, 7, 7, 7, 7, 7, 7, 7, 7, 7, 7, 7, 7, 7, 7, 7, 7, 7, 7, 7, 7, 7, 7, 7, 7, 7, 7, 7, 7, 7, 7, 7, 7, 8, 8, 8, 8, 8, 8, 8, 8, 8, 8, 8, 8, 8, 8, 8, 8, 8, 8, 8, 8, 8, 8, 8, 8, 8, 8, 8, 8, 8, 8, 8, 8, 8, 8, 8, 8, 8, 8, 8, 8, 8, 8, 8, 8, 8, 8, 8, 8, 8, 8, 8, 8, 8, 8, 8, 8, 8, 8, 8, 8, 8, 8, 8, 8, 8, 8, 8, 8, 8, 8, 8, 8, 8, 8, 8, 8, 8, 8, 8, 8, 8, 8, 8, 8, 8, 8, 8, 8, 8, 8, 8, 8, 8, 8, 8, 8, 8, 8, 8, 8, 8, 8, 8, 8, 8, 8, 8, 8, 8, 8, 8, 8, 8, 8, 8, 8, 8, 8, 8, 8, 8, 8, 8, 8, 8, 8, 8, 8]⟩ : ByteArray) (IntKind.u8.wrap x)))))) (.fail))))
noncomputable def math_bits_Len64_m : FnM := flM (Int) (Int) (fun p => ([.int .u64 p], [])) (fun p => math_bits_Len64_t p) (fun r => .int .i64 r) (fun _ => rfl)
noncomputable def math_bits_Len64_env : Env := envM [] [] [] [] [] 0
theorem math_bits_Len64_tells : Tells Try.prog 56 math_bits_Len64_m.c := math_bits_Len64_m.tells Try.func56 (show ∀ p, arun math_bits_Len64_env Try.f56 (math_bits_Len64_m.enc p).1 (math_bits_Len64_m.enc p).2 = _ from fun p => by kernel_rfl) noLoops .nil
noncomputable def math_bits_Len64 (x : Int) : Option (Int) := math_bits_Len64_m.val x
theorem math_bits_Len64_eq (x : Int) : math_bits_Len64 x = (math_bits_Len64_t x).get := math_bits_Len64_m.val_eq (fun x => intA (gd x.1 0)) (fun p => by kernel_rfl) x

/-! math/bits.Len -/
noncomputable def math_bits_Len_t (x : Int) : DT (Int) :=
 .bind (math_bits_Len64 x) fun z0 =>
 .leaf z0
noncomputable def math_bits_Len_m : FnM := flM (Int) (Int) (fun p => ([.int .u64 p], [])) (fun p => math_bits_Len_t p) (fun r => .int .i64 r) (fun _ => rfl)
noncomputable def math_bits_Len_env : Env := envM [(56, math_bits_Len64_m.c)] [] [] [] [] 0
theorem math_bits_Len_tells : Tells Try.prog 42 math_bits_Len_m.c := math_bits_Len_m.tells Try.func42 (show ∀ p, arun math_bits_Len_env Try.f42 (math_bits_Len_m.enc p).1 (math_bits_Len_m.enc p).2 = _ from fun p => by kernel_rfl) noLoops (.cons math_bits_Len64_tells .nil)
noncomputable def math_bits_Len (x : Int) : Option (Int) := math_bits_Len_m.val x
theorem math_bits_Len_eq (x : Int) : math_bits_Len x = (math_bits_Len_t x).get := math_bits_Len_m.val_eq (fun x => intA (gd x.1 0)) (fun p => by kernel_rfl) x

/-! cmp.isNaN[int] -/
noncomputable def cmp_isNaN_t (x : Int) : DT (Bool) :=
 .leaf (x != x)
noncomputable def cmp_isNaN_m : FnM := flM (Int) (Bool) (fun p => ([.int .i64 p], [])) (fun p => cmp_isNaN_t p) (fun r => .bool r) (fun _ => rfl)
noncomputable def cmp_isNaN_env : Env := envM [] [] [] [] [] 0
theorem cmp_isNaN_tells : Tells Try.prog 65 cmp_isNaN_m.c := cmp_isNaN_m.tells Try.func65 (show ∀ p, arun cmp_isNaN_env Try.f65 (cmp_isNaN_m.enc p).1 (cmp_isNaN_m.enc p).2 = _ from fun p => by kernel_rfl) noLoops .nil
noncomputable def cmp_isNaN (x : Int) : Option (Bool) := cmp_isNaN_m.val x
theorem cmp_isNaN_eq (x : Int) : cmp_isNaN x = (cmp_isNaN_t x).get := cmp_isNaN_m.val_eq (fun x => intA (gd x.1 0)) (fun p => by kernel_rfl) x

/-! cmp.Less[int] -/
noncomputable def cmp_Less_t (x y : Int) : DT (Bool) :=
 .bind (cmp_isNaN x) fun z0 =>
 .ite z0 (
 .bind (cmp_isNaN y) fun z1 =>
 .ite (!z1) (.leaf true) (.leaf (decide (x < y)))) (
 .leaf (decide (x < y)))
noncomputable def cmp_Less_m : FnM := flM (Int × Int) (Bool) (fun p => ([.int .i64 p.1, .int .i64 p.2], [])) (fun p => cmp_Less_t p.1 p.2) (fun r => .bool r) (fun _ => rfl)
noncomputable def cmp_Less_env : Env := envM [(65, cmp_isNaN_m.c)] [] [] [] [] 0
theorem cmp_Less_tells : Tells Try.prog 52 cmp_Less_m.c := cmp_Less_m.tells Try.func52 (show ∀ p, arun cmp_Less_env Try.f52 (cmp_Less_m.enc p).1 (cmp_Less_m.enc p).2 = _ from fun p => by kernel_rfl) noLoops (.cons cmp_isNaN_tells .nil)
noncomputable def cmp_Less (x y : Int) : Option (Bool) := cmp_Less_m.val (x, y)
theorem cmp_Less_eq (x y : Int) : cmp_Less x y = (cmp_Less_t x y).get := cmp_Less_m.val_eq (fun x => (intA (gd x.1 0), intA (gd x.1 1))) (fun p => by kernel_rfl) (x, y)

/-! slices.insertionSortOrdered[int] -/
noncomputable def slices_insertionSortOrdered_l4_step (u4_0 _u4_1 _u4_2 : Int) (u4_3 : Sq Int) (u4_4 : Int) : DT (LR ((Sq Int) × Int) ((Sq Int)) (Unit)) :=
 .ite (decide (u4_4 > u4_0)) (
 .ite (decide ((0 : Int) ≤ u4_4 ∧ u4_4 < ((u4_3.n : Nat) : Int))) (
 .ite (decide ((0 : Int) ≤ (wr (u4_4 - (1 : Int))) ∧ (wr (u4_4 - (1 : Int))) < ((u4_3.n : Nat) : Int))) (
 .bind (cmp_Less (u4_3.f (Int.toNat u4_4)) (u4_3.f (Int.toNat (wr (u4_4 - (1 : Int)))))) fun z0 =>
 .ite z0 (
 .ite (decide ((0 : Int) ≤ (wr (u4_4 - (1 : Int))) ∧ (wr (u4_4 - (1 : Int))) < ((u4_3.n : Nat) : Int))) (
 .ite (decide ((0 : Int) ≤ u4_4 ∧ u4_4 < ((u4_3.n : Nat) : Int))) (
 .ite (decide ((0 : Int) ≤ u4_4 ∧ u4_4 < ((u4_3.n : Nat) : Int))) (
 .ite (decide ((0 : Int) ≤ (wr (u4_4 - (1 : Int))) ∧ (wr (u4_4 - (1 : Int))) < ((u4_3.n : Nat) : Int))) (
 .leaf (.next ((Sq.mk u4_3.n (fun k0 => (cond (Nat.beq k0 (Int.toNat (wr (u4_4 - (1 : Int))))) (u4_3.f (Int.toNat u4_4)) (cond (Nat.beq k0 (Int.toNat u4_4)) (u4_3.f (Int.toNat (wr (u4_4 - (1 : Int))))) (u4_3.f k0))))), (wr (u4_4 - (1 : Int)))))) (
 .fail)) (
 .fail)) (
 .fail)) (
 .fail)) (
 .leaf (.l u4_3))) (
 .fail)) (
 .fail)) (
 .leaf (.l u4_3))
noncomputable def slices_insertionSortOrdered_l4_m : LpM := ⟨Int × Int × Int, (Sq Int) × Int, (Sq Int), Unit, fun p => ⟨[(0, .own 0 0), (1, .int .i64 p.1.1), (2, .int .i64 p.1.2.1), (6, .int .i64 p.1.2.2), (7, .int .i64 p.2.2)], [(0, rowA 0 1 3 (eI .i64) p.2.1)], 513⟩, fun f v => slices_insertionSortOrdered_l4_step f.1 f.2.1 f.2.2 v.1 v.2, true, (.exit 2), (fun x a => ⟨[(0, .own 0 0), (1, aget x.tm 1), (2, aget x.tm 2), (6, aget x.tm 6)], [(0, rowA 0 1 3 (eI .i64) a)], 513⟩), .ret, (fun _ _ => ⟨[], [], 0⟩)⟩
noncomputable def slices_insertionSortOrdered_l4 (u4_0 u4_1 u4_2 : Int) (u4_3 : Sq Int) (u4_4 : Int) : Option (((Sq Int)) ⊕ (Unit)) := slices_insertionSortOrdered_l4_m.val ((u4_0, u4_1, u4_2), (u4_3, u4_4))
theorem slices_insertionSortOrdered_l4_eq (u4_0 u4_1 u4_2 : Int) (u4_3 : Sq Int) (u4_4 : Int) : slices_insertionSortOrdered_l4 u4_0 u4_1 u4_2 u4_3 u4_4 = fixO (fun v : (Sq Int) × Int => slices_insertionSortOrdered_l4_step u4_0 u4_1 u4_2 v.1 v.2) (u4_3, u4_4) := slices_insertionSortOrdered_l4_m.val_eq (fun x => ((intA (aget x.tm 1), intA (aget x.tm 2), intA (aget x.tm 6)), (sqB dI (blkS x 0), intA (aget x.tm 7)))) (fun p => by kernel_rfl) ((u4_0, u4_1, u4_2), (u4_3, u4_4))
noncomputable def slices_insertionSortOrdered_l1_step (u1_0 u1_1 u1_2 : Int) (u1_3 : Sq Int) : DT (LR (Int × (Sq Int)) ((Sq Int)) (Unit)) :=
 .ite (decide (u1_2 < u1_1)) (
 .sum (slices_insertionSortOrdered_l4 u1_0 u1_1 u1_2 u1_3 u1_2) (fun y0 =>
 .leaf (.next ((wr (u1_2 + (1 : Int))), y0))) (fun _ => .fail)) (
 .leaf (.l u1_3))
noncomputable def slices_insertionSortOrdered_l1_m : LpM := ⟨Int × Int, Int × (Sq Int), (Sq Int), Unit, fun p => ⟨[(0, .own 0 0), (1, .int .i64 p.1.1), (2, .int .i64 p.1.2), (6, .int .i64 p.2.1)], [(0, rowA 0 1 3 (eI .i64) p.2.2)], 193⟩, fun f v => slices_insertionSortOrdered_l1_step f.1 f.2 v.1 v.2, true, (.exit 0), (fun _ a => ⟨[], [(0, rowA 0 1 3 (eI .i64) a)], 193⟩), .ret, (fun _ _ => ⟨[], [], 0⟩)⟩
noncomputable def slices_insertionSortOrdered_l1 (u1_0 u1_1 u1_2 : Int) (u1_3 : Sq Int) : Option (((Sq Int)) ⊕ (Unit)) := slices_insertionSortOrdered_l1_m.val ((u1_0, u1_1), (u1_2, u1_3))
theorem slices_insertionSortOrdered_l1_eq (u1_0 u1_1 u1_2 : Int) (u1_3 : Sq Int) : slices_insertionSortOrdered_l1 u1_0 u1_1 u1_2 u1_3 = fixO (fun v : Int × (Sq Int) => slices_insertionSortOrdered_l1_step u1_0 u1_1 v.1 v.2) (u1_2, u1_3) := slices_insertionSortOrdered_l1_m.val_eq (fun x => ((intA (aget x.tm 1), intA (aget x.tm 2)), (intA (aget x.tm 6), sqB dI (blkS x 0)))) (fun p => by kernel_rfl) ((u1_0, u1_1), (u1_2, u1_3))
noncomputable def slices_insertionSortOrdered_t (data : Sq Int) (a b : Int) : DT ((Sq Int)) :=
 .sum (slices_insertionSortOrdered_l1 a b (wr (a + (1 : Int))) data) (fun y1 =>
 .leaf y1) (fun _ => .fail)
noncomputable def slices_insertionSortOrdered_m : FnM := nfM ((Sq Int) × Int × Int) ((Sq Int)) (fun p => ([.own 0 0, .int .i64 p.2.1, .int .i64 p.2.2], [rowA 0 1 3 (eI .i64) p.1])) (fun p => slices_insertionSortOrdered_t p.1 p.2.1 p.2.2) (fun _ => .tup []) (fun _ r => [rowA 0 1 3 (eI .i64) r])
noncomputable def slices_insertionSortOrdered_env : Env := envM [(52, cmp_Less_m.c)] [(4, [0, 1, 2, 6, 7], [0, 1, 2, 6]), (1, [0, 1, 2, 6], [])] [(4, slices_insertionSortOrdered_l4_m.c), (1, slices_insertionSortOrdered_l1_m.c)] [] [(4, [0]), (1, [0])] 1
noncomputable def slices_insertionSortOrdered_e : Env := { slices_insertionSortOrdered_env with nt := 49 }
theorem slices_insertionSortOrdered_l4_tells : LoopTells slices_insertionSortOrdered_e (loopOf 4 Try.f46) slices_insertionSortOrdered_l4_m.c := slices_insertionSortOrdered_l4_m.tells 513 (fun _ => by kernel_rfl) (fun _ _ _ _ => by kernel_rfl) (fun _ _ _ _ => by kernel_rfl) fun R f v N K => by kernel_rfl
theorem slices_insertionSortOrdered_l1_tells : LoopTells slices_insertionSortOrdered_e (loopOf 1 Try.f46) slices_insertionSortOrdered_l1_m.c := slices_insertionSortOrdered_l1_m.tells 193 (fun _ => by kernel_rfl) (fun _ _ _ _ => by kernel_rfl) (fun _ _ _ _ => by kernel_rfl) fun R f v N K => by kernel_rfl
theorem slices_insertionSortOrdered_tells : Tells Try.prog 46 slices_insertionSortOrdered_m.c := slices_insertionSortOrdered_m.tells Try.func46 (show ∀ p, arun slices_insertionSortOrdered_env Try.f46 (slices_insertionSortOrdered_m.enc p).1 (slices_insertionSortOrdered_m.enc p).2 = _ from fun p => by kernel_rfl) (loopsL [loopOf 1 Try.f46, loopOf 4 Try.f46] (by kernel_rfl) ⟨lpT (by kernel_rfl) slices_insertionSortOrdered_l1_tells, ⟨lpT (by kernel_rfl) slices_insertionSortOrdered_l4_tells, trivial⟩⟩) (.cons cmp_Less_tells .nil)
noncomputable def slices_insertionSortOrdered (data : Sq Int) (a b : Int) : Option ((Sq Int)) := slices_insertionSortOrdered_m.val (data, a, b)
theorem slices_insertionSortOrdered_eq (data : Sq Int) (a b : Int) : slices_insertionSortOrdered data a b = (slices_insertionSortOrdered_t data a b).get := slices_insertionSortOrdered_m.val_eq (fun x => (sqB dI (dB x.2 0), intA (gd x.1 1), intA (gd x.1 2))) (fun p => by kernel_rfl) (data, a, b)

/-! slices.pdqsortOrdered[int] -/
noncomputable def slices_pdqsortOrdered_l2_step (u2_0 u2_1 u2_2 : Int) (u2_3 : Sq Int) : DT (LR (Unit) ((Sq Int)) (Unit)) :=
 .ite (decide ((wr (u2_1 - u2_0)) ≤ (12 : Int))) (
 .bind (slices_insertionSortOrdered u2_3 u2_0 u2_1) fun z0 =>
 .leaf (.l z0)) (
 .ite (u2_2 == (0 : Int)) (.fail) (.fail))
noncomputable def slices_pdqsortOrdered_l2_m : LpM := ⟨Int × Int × Int × (Sq Int), Unit, (Sq Int), Unit, fun p => ⟨[(0, .own 0 0), (1, .int .i64 p.1.1), (2, .int .i64 p.1.2.1), (3, .int .i64 p.1.2.2.1), (8, .bool true), (9, .bool true)], [(0, rowA 0 1 3 (eI .i64) p.1.2.2.2)], 129⟩, fun f _ => slices_pdqsortOrdered_l2_step f.1 f.2.1 f.2.2.1 f.2.2.2, true, .ret, (fun _ a => ⟨[], [(0, rowA 0 1 3 (eI .i64) a)], 129⟩), .ret, (fun _ _ => ⟨[], [], 0⟩)⟩
noncomputable def slices_pdqsortOrdered_l2 (u2_0 u2_1 u2_2 : Int) (u2_3 : Sq Int) : Option (((Sq Int)) ⊕ (Unit)) := slices_pdqsortOrdered_l2_m.val ((u2_0, u2_1, u2_2, u2_3), ())
theorem slices_pdqsortOrdered_l2_eq (u2_0 u2_1 u2_2 : Int) (u2_3 : Sq Int) : slices_pdqsortOrdered_l2 u2_0 u2_1 u2_2 u2_3 = fixO (fun _ : Unit => slices_pdqsortOrdered_l2_step u2_0 u2_1 u2_2 u2_3) () := slices_pdqsortOrdered_l2_m.val_eq (fun x => ((intA (aget x.tm 1), intA (aget x.tm 2), intA (aget x.tm 3), sqB dI (blkS x 0)), ())) (fun p => by kernel_rfl) ((u2_0, u2_1, u2_2, u2_3), ())
noncomputable def slices_pdqsortOrdered_t (data : Sq Int) (a b limit : Int) : DT ((Sq Int)) :=
 .sum (slices_pdqsortOrdered_l2 a b limit data) (fun y0 =>
 .leaf y0) (fun _ => .fail)
noncomputable def slices_pdqsortOrdered_m : FnM := nfM ((Sq Int) × Int × Int × Int) ((Sq Int)) (fun p => ([.own 0 0, .int .i64 p.2.1, .int .i64 p.2.2.1, .int .i64 p.2.2.2], [rowA 0 1 3 (eI .i64) p.1])) (fun p => slices_pdqsortOrdered_t p.1 p.2.1 p.2.2.1 p.2.2.2) (fun _ => .tup []) (fun _ r => [rowA 0 1 3 (eI .i64) r])
noncomputable def slices_pdqsortOrdered_env : Env := envM [(46, slices_insertionSortOrdered_m.c)] [(2, [0, 1, 2, 3, 8, 9], []), (2000046, [], [])] [(2, slices_pdqsortOrdered_l2_m.c)] [] [(2, [0])] 1
noncomputable def slices_pdqsortOrdered_e : Env := { slices_pdqsortOrdered_env with nt := 134 }
theorem slices_pdqsortOrdered_l2_tells : LoopTells slices_pdqsortOrdered_e (loopOf 2 Try.f41) slices_pdqsortOrdered_l2_m.c := slices_pdqsortOrdered_l2_m.tells 129 (fun _ => by kernel_rfl) (fun _ _ _ _ => by kernel_rfl) (fun _ _ _ _ => by kernel_rfl) fun R f v N K => by kernel_rfl
theorem slices_pdqsortOrdered_tells : Tells Try.prog 41 slices_pdqsortOrdered_m.c := slices_pdqsortOrdered_m.tells Try.func41 (show ∀ p, arun slices_pdqsortOrdered_env Try.f41 (slices_pdqsortOrdered_m.enc p).1 (slices_pdqsortOrdered_m.enc p).2 = _ from fun p => by kernel_rfl) (loopsL [loopOf 2 Try.f41] (by kernel_rfl) ⟨lpT (by kernel_rfl) slices_pdqsortOrdered_l2_tells, trivial⟩) (.cons slices_insertionSortOrdered_tells .nil)
noncomputable def slices_pdqsortOrdered (data : Sq Int) (a b limit : Int) : Option ((Sq Int)) := slices_pdqsortOrdered_m.val (data, a, b, limit)
theorem slices_pdqsortOrdered_eq (data : Sq Int) (a b limit : Int) : slices_pdqsortOrdered data a b limit = (slices_pdqsortOrdered_t data a b limit).get := slices_pdqsortOrdered_m.val_eq (fun x => (sqB dI (dB x.2 0), intA (gd x.1 1), intA (gd x.1 2), intA (gd x.1 3))) (fun p => by kernel_rfl) (data, a, b, limit)

/-! slices.Sort[[]int,int] -/
noncomputable def slices_Sort_t (x : Sq Int) : DT ((Sq Int)) :=
 .bind (math_bits_Len (IntKind.u64.wrap ((x.n : Nat) : Int))) fun z0 =>
 .bind (slices_pdqsortOrdered x (0 : Int) ((x.n : Nat) : Int) z0) fun z1 =>
 .leaf z1
noncomputable def slices_Sort_m : FnM := nfM ((Sq Int)) ((Sq Int)) (fun p => ([.own 0 0], [rowA 0 1 3 (eI .i64) p])) (fun p => slices_Sort_t p) (fun _ => .tup []) (fun _ r => [rowA 0 1 3 (eI .i64) r])
noncomputable def slices_Sort_env : Env := envM [(42, math_bits_Len_m.c), (41, slices_pdqsortOrdered_m.c)] [(2000041, [], [])] [] [] [] 1
theorem slices_Sort_tells : Tells Try.prog 30 slices_Sort_m.c := slices_Sort_m.tells Try.func30 (show ∀ p, arun slices_Sort_env Try.f30 (slices_Sort_m.enc p).1 (slices_Sort_m.enc p).2 = _ from fun p => by kernel_rfl) noLoops (.cons math_bits_Len_tells (.cons slices_pdqsortOrdered_tells .nil))
noncomputable def slices_Sort (x : Sq Int) : Option ((Sq Int)) := slices_Sort_m.val x
theorem slices_Sort_eq (x : Sq Int) : slices_Sort x = (slices_Sort_t x).get := slices_Sort_m.val_eq (fun x => sqB dI (dB x.2 0)) (fun p => by kernel_rfl) x

/-! minecontrol/plan.part -/
noncomputable def plan_part_l7_step (u7_2 : Sq SPlace) (u7_3 : Sq SRoad) (u7_5 : Sq Int) (u7_7 : Int) (u7_1 : Sq Bool) (u7_4 : Sq Int) (u7_6 : Int) : DT (LR ((Sq Bool) × (Sq Int) × Int) ((Sq Bool) × (Sq Int)) (Unit)) :=
 .ite (decide (u7_6 < ((u7_5.n : Nat) : Int))) (
 .ite (decide ((0 : Int) ≤ u7_6 ∧ u7_6 < ((u7_5.n : Nat) : Int))) (
 .ite (decide ((0 : Int) ≤ u7_7 ∧ u7_7 < ((u7_4.n : Nat) : Int))) (
 .bind (plan_Other (SMine.mk u7_2 u7_3) (u7_5.f (Int.toNat u7_6)) (u7_4.f (Int.toNat u7_7))) fun z0 =>
 .ite (decide ((0 : Int) ≤ (u7_5.f (Int.toNat u7_6)) ∧ (u7_5.f (Int.toNat u7_6)) < ((u7_3.n : Nat) : Int))) (
 .ite (!(u7_3.f (Int.toNat (u7_5.f (Int.toNat u7_6)))).Closed) (
 .ite (decide ((0 : Int) ≤ z0 ∧ z0 < ((u7_1.n : Nat) : Int))) (
 .ite (!(u7_1.f (Int.toNat z0))) (
 .ite (decide ((0 : Int) ≤ z0 ∧ z0 < ((u7_1.n : Nat) : Int))) (
 .ite (decide ((u7_4.n + 1) * 8 ≤ 140737488355328 ∧ (u7_4.n + 1) ≤ 1099511627776)) (
 .leaf (.next ((Sq.mk u7_1.n (fun k0 => (cond (Nat.beq k0 (Int.toNat z0)) true (u7_1.f k0)))), (Sq.mk (u7_4.n + 1) (fun k1 => (cond (Nat.blt k1 u7_4.n) (u7_4.f k1) z0))), (wr (u7_6 + (1 : Int)))))) (
 .fail)) (
 .fail)) (
 .leaf (.next (u7_1, u7_4, (wr (u7_6 + (1 : Int))))))) (
 .fail)) (
 .leaf (.next (u7_1, u7_4, (wr (u7_6 + (1 : Int))))))) (
 .fail)) (
 .fail)) (
 .fail)) (
 .leaf (.l (u7_1, u7_4)))
noncomputable def plan_part_l7_m : LpM := ⟨(Sq SPlace) × (Sq SRoad) × (Sq Int) × Int, (Sq Bool) × (Sq Int) × Int, (Sq Bool) × (Sq Int), Unit, fun p => ⟨[(2, .own 0 0), (3, .ptr 1 0), (7, .own 193 0), (8, .int .i64 p.1.2.2.2), (28, .own 1217 0), (29, .int .i64 ((p.1.2.2.1.n : Nat) : Int)), (30, .int .i64 p.2.2.2)], [(0, rowA 0 1 4 eO p.2.1), (1, .var [sqA 2 SPlace.enc p.1.1, sqA 10 SRoad.enc p.1.2.1]), (193, rowA 0 1 3 (eI .i64) p.2.2.1), (1217, rowA 0 1 3 (eI .i64) p.1.2.2.1)], 1409⟩, fun f v => plan_part_l7_step f.1 f.2.1 f.2.2.1 f.2.2.2 v.1 v.2.1 v.2.2, true, (.exit 2), (fun x a => ⟨[(2, .own 0 0), (3, .ptr 1 0), (7, .own 193 0), (8, aget x.tm 8)], [(0, rowA 0 1 4 eO a.1), (1, blkS x 1), (193, rowA 0 1 3 (eI .i64) a.2), (1217, blkS x 1217)], 1409⟩), .ret, (fun _ _ => ⟨[], [], 0⟩)⟩
noncomputable def plan_part_l7 (u7_2 : Sq SPlace) (u7_3 : Sq SRoad) (u7_5 : Sq Int) (u7_7 : Int) (u7_1 : Sq Bool) (u7_4 : Sq Int) (u7_6 : Int) : Option (((Sq Bool) × (Sq Int)) ⊕ (Unit)) := plan_part_l7_m.val ((u7_2, u7_3, u7_5, u7_7), (u7_1, u7_4, u7_6))
theorem plan_part_l7_eq (u7_2 : Sq SPlace) (u7_3 : Sq SRoad) (u7_5 : Sq Int) (u7_7 : Int) (u7_1 : Sq Bool) (u7_4 : Sq Int) (u7_6 : Int) : plan_part_l7 u7_2 u7_3 u7_5 u7_7 u7_1 u7_4 u7_6 = fixO (fun v : (Sq Bool) × (Sq Int) × Int => plan_part_l7_step u7_2 u7_3 u7_5 u7_7 v.1 v.2.1 v.2.2) (u7_1, u7_4, u7_6) := plan_part_l7_m.val_eq (fun x => ((sqD SPlace.dec (cellS x 1 0), sqD SRoad.dec (cellS x 1 1), sqB dI (blkS x 1217), intA (aget x.tm 8)), (sqB dO (blkS x 0), sqB dI (blkS x 193), intA (aget x.tm 30)))) (fun p => by kernel_rfl) ((u7_2, u7_3, u7_5, u7_7), (u7_1, u7_4, u7_6))
noncomputable def plan_part_l4_step (u4_1 : Sq SPlace) (u4_2 : Sq SRoad) (u4_0 : Sq Bool) (u4_3 : Sq Int) (u4_4 : Int) : DT (LR ((Sq Bool) × (Sq Int) × Int) ((Sq Bool) × (Sq Int)) (Unit)) :=
 .ite (decide (u4_4 < ((u4_3.n : Nat) : Int))) (
 .ite (decide ((0 : Int) ≤ u4_4 ∧ u4_4 < ((u4_3.n : Nat) : Int))) (
 .bind (plan_Roads (SMine.mk u4_1 u4_2) (u4_3.f (Int.toNat u4_4))) fun z1 =>
 .sum (plan_part_l7 u4_1 u4_2 z1 u4_4 u4_0 u4_3 (0 : Int)) (fun y0 =>
 .leaf (.next (y0.1, y0.2, (wr (u4_4 + (1 : Int)))))) (fun _ => .fail)) (
 .fail)) (
 .leaf (.l (u4_0, u4_3)))
noncomputable def plan_part_l4_m : LpM := ⟨(Sq SPlace) × (Sq SRoad), (Sq Bool) × (Sq Int) × Int, (Sq Bool) × (Sq Int), Unit, fun p => ⟨[(2, .own 0 0), (3, .ptr 1 0), (7, .own 193 0), (8, .int .i64 p.2.2.2)], [(0, rowA 0 1 4 eO p.2.1), (1, .var [sqA 2 SPlace.enc p.1.1, sqA 10 SRoad.enc p.1.2]), (193, rowA 0 1 3 (eI .i64) p.2.2.1)], 641⟩, fun f v => plan_part_l4_step f.1 f.2 v.1 v.2.1 v.2.2, true, (.exit 0), (fun x a => ⟨[(7, .own 193 0)], [(0, rowA 0 1 4 eO a.1), (1, blkS x 1), (193, rowA 0 1 3 (eI .i64) a.2)], 641⟩), .ret, (fun _ _ => ⟨[], [], 0⟩)⟩
noncomputable def plan_part_l4 (u4_1 : Sq SPlace) (u4_2 : Sq SRoad) (u4_0 : Sq Bool) (u4_3 : Sq Int) (u4_4 : Int) : Option (((Sq Bool) × (Sq Int)) ⊕ (Unit)) := plan_part_l4_m.val ((u4_1, u4_2), (u4_0, u4_3, u4_4))
theorem plan_part_l4_eq (u4_1 : Sq SPlace) (u4_2 : Sq SRoad) (u4_0 : Sq Bool) (u4_3 : Sq Int) (u4_4 : Int) : plan_part_l4 u4_1 u4_2 u4_0 u4_3 u4_4 = fixO (fun v : (Sq Bool) × (Sq Int) × Int => plan_part_l4_step u4_1 u4_2 v.1 v.2.1 v.2.2) (u4_0, u4_3, u4_4) := plan_part_l4_m.val_eq (fun x => ((sqD SPlace.dec (cellS x 1 0), sqD SRoad.dec (cellS x 1 1)), (sqB dO (blkS x 0), sqB dI (blkS x 193), intA (aget x.tm 8)))) (fun p => by kernel_rfl) ((u4_1, u4_2), (u4_0, u4_3, u4_4))
noncomputable def plan_part_t (m : SMine) (first : Int) (seen : Sq Bool) : DT ((Sq Int) × (Sq Bool)) :=
 .ite (decide ((0 : Int) ≤ first ∧ first < ((seen.n : Nat) : Int))) (
 .sum (plan_part_l4 m.Places m.Roads (Sq.mk seen.n (fun k2 => (cond (Nat.beq k2 (Int.toNat first)) true (seen.f k2)))) (Sq.mk 1 (fun _ => first)) (0 : Int)) (fun y1 =>
 .bind (slices_Sort y1.2) fun z2 =>
 .leaf (z2, y1.1)) (fun _ => .fail)) (
 .fail)
noncomputable def plan_part_m : FnM := nfM (SMine × Int × (Sq Bool)) ((Sq Int) × (Sq Bool)) (fun p => ([.agg (SMine.enc p.1), .int .i64 p.2.1, .own 0 0], [rowA 0 1 4 eO p.2.2])) (fun p => plan_part_t p.1 p.2.1 p.2.2) (fun _ => .own 1 0) (fun _ r => [rowA 0 1 4 eO r.2, rowA 0 1 3 (eI .i64) r.1])
noncomputable def plan_part_env : Env := envM [(10, plan_Roads_m.c), (12, plan_Other_m.c), (30, slices_Sort_m.c)] [(7, [2, 3, 7, 8, 28, 29, 30], [2, 3, 7, 8]), (4, [2, 3, 7, 8], [7]), (2000030, [], [])] [(7, plan_part_l7_m.c), (4, plan_part_l4_m.c)] [] [(7, [0, 1, 193, 1217]), (4, [0, 1, 193])] 1
noncomputable def plan_part_e : Env := { plan_part_env with nt := 66 }
theorem plan_part_l7_tells : LoopTells plan_part_e (loopOf 7 Try.f34) plan_part_l7_m.c := plan_part_l7_m.tells 1409 (fun _ => by kernel_rfl) (fun _ _ _ _ => by kernel_rfl) (fun _ _ _ _ => by kernel_rfl) fun R f v N K => by kernel_rfl
theorem plan_part_l4_tells : LoopTells plan_part_e (loopOf 4 Try.f34) plan_part_l4_m.c := plan_part_l4_m.tells 641 (fun _ => by kernel_rfl) (fun _ _ _ _ => by kernel_rfl) (fun _ _ _ _ => by kernel_rfl) fun R f v N K => by kernel_rfl
theorem plan_part_tells : Tells Try.prog 34 plan_part_m.c := plan_part_m.tells Try.func34 (show ∀ p, arun plan_part_env Try.f34 (plan_part_m.enc p).1 (plan_part_m.enc p).2 = _ from fun p => by kernel_rfl) (loopsL [loopOf 4 Try.f34, loopOf 7 Try.f34] (by kernel_rfl) ⟨lpT (by kernel_rfl) plan_part_l4_tells, ⟨lpT (by kernel_rfl) plan_part_l7_tells, trivial⟩⟩) (.cons plan_Roads_tells (.cons plan_Other_tells (.cons slices_Sort_tells .nil)))
noncomputable def plan_part (m : SMine) (first : Int) (seen : Sq Bool) : Option ((Sq Int) × (Sq Bool)) := plan_part_m.val (m, first, seen)
theorem plan_part_eq (m : SMine) (first : Int) (seen : Sq Bool) : plan_part m first seen = (plan_part_t m first seen).get := plan_part_m.val_eq (fun x => (SMine.dec (aggL (gd x.1 0)), intA (gd x.1 1), sqB dO (dB x.2 0))) (fun p => by kernel_rfl) (m, first, seen)

/-! minecontrol/plan.Parts -/
noncomputable def plan_Parts_l6_step (u6_1 : Sq SPlace) (u6_2 : Sq SRoad) (u6_3 : (Sq (Sq Int))) (u6_4 : Sq Bool) (u6_5 : Int) : DT (LR ((Sq (Sq Int)) × (Sq Bool) × Int) ((Sq (Sq Int)) × (Sq Bool)) (Unit)) :=
 .ite (decide (u6_5 < ((u6_1.n : Nat) : Int))) (
 .ite (decide ((0 : Int) ≤ u6_5 ∧ u6_5 < ((u6_4.n : Nat) : Int))) (
 .ite (!(u6_4.f (Int.toNat u6_5))) (
 .bind (plan_part (SMine.mk u6_1 u6_2) u6_5 u6_4) fun z0 =>
 .ite (decide ((u6_3.n + 1) * 24 ≤ 140737488355328 ∧ (u6_3.n + 1) ≤ 1099511627776)) (
 .leaf (.next ((Sq.mk (u6_3.n + 1) (fun k0 => (Sq.mk (cond (Nat.blt k0 u6_3.n) (u6_3.f k0).n z0.1.n) (fun k1 => (cond (Nat.blt k0 u6_3.n) ((u6_3.f k0).f k1) (z0.1.f k1)))))), z0.2, (wr (u6_5 + (1 : Int)))))) (
 .fail)) (
 .leaf (.next (u6_3, u6_4, (wr (u6_5 + (1 : Int))))))) (
 .fail)) (
 .leaf (.l (u6_3, u6_4)))
noncomputable def plan_Parts_l6_m : LpM := ⟨(Sq SPlace) × (Sq SRoad), (Sq (Sq Int)) × (Sq Bool) × Int, (Sq (Sq Int)) × (Sq Bool), Unit, fun p => ⟨[(1, .ptr 0 0), (3, .own 384 0), (4, .own 640 0), (15, .int .i64 ((p.1.1.n : Nat) : Int)), (16, .int .i64 p.2.2.2)], [(0, .var [sqA 2 SPlace.enc p.1.1, sqA 10 SRoad.enc p.1.2]), (384, rowA 0 1 33 (eQ 1 (eI .i64)) p.2.1), (640, rowA 0 1 4 eO p.2.2.1)], 1024⟩, fun f v => plan_Parts_l6_step f.1 f.2 v.1 v.2.1 v.2.2, true, (.exit 0), (fun x a => ⟨[(3, .own 384 0)], [(0, blkS x 0), (384, rowA 0 1 33 (eQ 1 (eI .i64)) a.1), (640, rowA 0 1 4 eO a.2)], 1024⟩), .ret, (fun _ _ => ⟨[], [], 0⟩)⟩
noncomputable def plan_Parts_l6 (u6_1 : Sq SPlace) (u6_2 : Sq SRoad) (u6_3 : (Sq (Sq Int))) (u6_4 : Sq Bool) (u6_5 : Int) : Option (((Sq (Sq Int)) × (Sq Bool)) ⊕ (Unit)) := plan_Parts_l6_m.val ((u6_1, u6_2), (u6_3, u6_4, u6_5))
theorem plan_Parts_l6_eq (u6_1 : Sq SPlace) (u6_2 : Sq SRoad) (u6_3 : (Sq (Sq Int))) (u6_4 : Sq Bool) (u6_5 : Int) : plan_Parts_l6 u6_1 u6_2 u6_3 u6_4 u6_5 = fixO (fun v : (Sq (Sq Int)) × (Sq Bool) × Int => plan_Parts_l6_step u6_1 u6_2 v.1 v.2.1 v.2.2) (u6_3, u6_4, u6_5) := plan_Parts_l6_m.val_eq (fun x => ((sqD SPlace.dec (cellS x 0 0), sqD SRoad.dec (cellS x 0 1)), (sqB (dQ dI) (blkS x 384), sqB dO (blkS x 640), intA (aget x.tm 16)))) (fun p => by kernel_rfl) ((u6_1, u6_2), (u6_3, u6_4, u6_5))
noncomputable def plan_Parts_t (m : SMine) : DT ((Sq (Sq Int))) :=
 .bind (plan_Valid m) fun z1 =>
 .ite (!z1) (
 .leaf (Sq.mk 0 (fun _ => (Sq.mk 0 (fun _ => (0 : Int)))))) (
 .ite (decide ((0 : Int) ≤ ((m.Places.n : Nat) : Int) ∧ ((m.Places.n : Nat) : Int) ≤ ((m.Places.n : Nat) : Int) ∧ ((m.Places.n : Nat) : Int) * ((1 : Nat) : Int) ≤ 140737488355328 ∧ ((m.Places.n : Nat) : Int) ≤ 1099511627776)) (
 .sum (plan_Parts_l6 m.Places m.Roads (Sq.mk 0 (fun _ => (Sq.mk 0 (fun _ => (0 : Int))))) (Sq.mk (Int.toNat ((m.Places.n : Nat) : Int)) (fun _ => false)) (0 : Int)) (fun y0 =>
 .leaf y0.1) (fun _ => .fail)) (
 .fail))
noncomputable def plan_Parts_m : FnM := nfM (SMine) ((Sq (Sq Int))) (fun p => ([.agg (SMine.enc p)], [])) (fun p => plan_Parts_t p) (fun _ => .own 0 0) (fun _ r => [rowA 0 1 33 (eQ 1 (eI .i64)) r])
noncomputable def plan_Parts_env : Env := envM [(33, plan_Valid_m.c), (34, plan_part_m.c)] [(6, [1, 3, 4, 15, 16], [3]), (2000034, [], [])] [(6, plan_Parts_l6_m.c)] [(1000006, [.asrow 384 33 1 (fun _ => (eQ 1 (eI .i64)) (Sq.mk 0 (fun _ => (0 : Int))))]), (2000000, [.asrow 320 33 1 (fun _ => (eQ 1 (eI .i64)) (Sq.mk 0 (fun _ => (0 : Int))))])] [(6, [0, 384, 640])] 0
noncomputable def plan_Parts_e : Env := { plan_Parts_env with nt := 33 }
theorem plan_Parts_l6_tells : LoopTells plan_Parts_e (loopOf 6 Try.f17) plan_Parts_l6_m.c := plan_Parts_l6_m.tells 1024 (fun _ => by kernel_rfl) (fun _ _ _ _ => by kernel_rfl) (fun _ _ _ _ => by kernel_rfl) fun R f v N K => by kernel_rfl
theorem plan_Parts_tells : Tells Try.prog 17 plan_Parts_m.c := plan_Parts_m.tells Try.func17 (show ∀ p, arun plan_Parts_env Try.f17 (plan_Parts_m.enc p).1 (plan_Parts_m.enc p).2 = _ from fun p => by kernel_rfl) (loopsL [loopOf 6 Try.f17] (by kernel_rfl) ⟨lpT (by kernel_rfl) plan_Parts_l6_tells, trivial⟩) (.cons plan_Valid_tells (.cons plan_part_tells .nil))
noncomputable def plan_Parts (m : SMine) : Option ((Sq (Sq Int))) := plan_Parts_m.val m
theorem plan_Parts_eq (m : SMine) : plan_Parts m = (plan_Parts_t m).get := plan_Parts_m.val_eq (fun x => SMine.dec (aggL (gd x.1 0))) (fun p => by kernel_rfl) m

/-! minecontrol/plan.CutOff$1 -/
noncomputable def plan_CutOff_1_t (place : Int) (x : SMine) : DT (Bool) :=
 .ite (decide ((0 : Int) ≤ place ∧ place < ((x.Places.n : Nat) : Int))) (.leaf (x.Places.f (Int.toNat place)).Surface) (.fail)
noncomputable def plan_CutOff_1_m : FnM := nfM (Int × SMine) (Bool) (fun p => ([.int .i64 p.1, .ptr 0 0], [.var (SMine.enc p.2)])) (fun p => plan_CutOff_1_t p.1 p.2) (fun r => .bool r) (fun ins _ => [dB ins 0])
noncomputable def plan_CutOff_1_env : Env := envM [] [] [] [] [] 1
theorem plan_CutOff_1_tells : Tells Try.prog 28 plan_CutOff_1_m.c := plan_CutOff_1_m.tells Try.func28 (show ∀ p, arun plan_CutOff_1_env Try.f28 (plan_CutOff_1_m.enc p).1 (plan_CutOff_1_m.enc p).2 = _ from fun p => by kernel_rfl) noLoops .nil
noncomputable def plan_CutOff_1 (place : Int) (x : SMine) : Option (Bool) := plan_CutOff_1_m.val (place, x)
theorem plan_CutOff_1_eq (place : Int) (x : SMine) : plan_CutOff_1 place x = (plan_CutOff_1_t place x).get := plan_CutOff_1_m.val_eq (fun x => (intA (gd x.1 0), SMine.dec (varL (dB x.2 0)))) (fun p => by kernel_rfl) (place, x)

/-! slices.IndexFunc[[]int,int] -/
noncomputable def slices_IndexFunc_l2_step (u2_0 : Sq Int) (u2_2 : Sq SPlace) (u2_3 : Sq SRoad) (u2_4 : Int) : DT (LR (Int) (Unit) (Int)) :=
 .ite (decide (u2_4 < ((u2_0.n : Nat) : Int))) (
 .ite (decide ((0 : Int) ≤ u2_4 ∧ u2_4 < ((u2_0.n : Nat) : Int))) (
 .bind (plan_CutOff_1 (u2_0.f (Int.toNat u2_4)) (SMine.mk u2_2 u2_3)) fun z0 =>
 .ite z0 (
 .leaf (.r u2_4)) (
 .leaf (.next (wr (u2_4 + (1 : Int)))))) (
 .fail)) (
 .leaf (.l ()))
noncomputable def slices_IndexFunc_l2_m : LpM := ⟨(Sq Int) × (Sq SPlace) × (Sq SRoad), Int, Unit, Int, fun p => ⟨[(0, sqA 1 (eI .i64) p.1.1), (1, .fn 28 [.ptr 0 0]), (7, .int .i64 ((p.1.1.n : Nat) : Int)), (8, .int .i64 p.2)], [(0, .var [sqA 2 SPlace.enc p.1.2.1, sqA 10 SRoad.enc p.1.2.2])], 257⟩, fun f v => slices_IndexFunc_l2_step f.1 f.2.1 f.2.2 v, false, (.exit 0), (fun x _ => ⟨[(4, .undef)], [(0, blkS x 0)], 257⟩), .ret, (fun x a => ⟨[(4, .int .i64 a)], [(0, blkS x 0)], 257⟩)⟩
noncomputable def slices_IndexFunc_l2 (u2_0 : Sq Int) (u2_2 : Sq SPlace) (u2_3 : Sq SRoad) (u2_4 : Int) : Option ((Unit) ⊕ (Int)) := slices_IndexFunc_l2_m.val ((u2_0, u2_2, u2_3), u2_4)
theorem slices_IndexFunc_l2_eq (u2_0 : Sq Int) (u2_2 : Sq SPlace) (u2_3 : Sq SRoad) (u2_4 : Int) : slices_IndexFunc_l2 u2_0 u2_2 u2_3 u2_4 = fixO (fun v : Int => slices_IndexFunc_l2_step u2_0 u2_2 u2_3 v) u2_4 := slices_IndexFunc_l2_m.val_eq (fun x => ((sqD dI (aget x.tm 0), sqD SPlace.dec (cellS x 0 0), sqD SRoad.dec (cellS x 0 1)), intA (aget x.tm 8))) (fun p => by kernel_rfl) ((u2_0, u2_2, u2_3), u2_4)
noncomputable def slices_IndexFunc_t (s : Sq Int) (y0 : SMine) : DT (Int) :=
 .sum (slices_IndexFunc_l2 s y0.Places y0.Roads (0 : Int)) (fun _ =>
 .leaf (-1 : Int)) (fun y1 => .leaf y1)
noncomputable def slices_IndexFunc_m : FnM := nfM ((Sq Int) × SMine) (Int) (fun p => ([sqA 1 (eI .i64) p.1, .fn 28 [.ptr 0 0]], [.var (SMine.enc p.2)])) (fun p => slices_IndexFunc_t p.1 p.2) (fun r => .int .i64 r) (fun ins _ => [dB ins 0])
noncomputable def slices_IndexFunc_env : Env := envM [(28, plan_CutOff_1_m.c)] [(2, [0, 1, 7, 8], [4])] [(2, slices_IndexFunc_l2_m.c)] [] [(2, [0])] 1
noncomputable def slices_IndexFunc_e : Env := { slices_IndexFunc_env with nt := 19 }
theorem slices_IndexFunc_l2_tells : LoopTells slices_IndexFunc_e (loopOf 2 Try.f40) slices_IndexFunc_l2_m.c := slices_IndexFunc_l2_m.tells 257 (fun _ => by kernel_rfl) (fun _ _ _ _ => by kernel_rfl) (fun _ _ _ _ => by kernel_rfl) fun R f v N K => by kernel_rfl
theorem slices_IndexFunc_tells : Tells Try.prog 40 slices_IndexFunc_m.c := slices_IndexFunc_m.tells Try.func40 (show ∀ p, arun slices_IndexFunc_env Try.f40 (slices_IndexFunc_m.enc p).1 (slices_IndexFunc_m.enc p).2 = _ from fun p => by kernel_rfl) (loopsL [loopOf 2 Try.f40] (by kernel_rfl) ⟨lpT (by kernel_rfl) slices_IndexFunc_l2_tells, trivial⟩) (.cons plan_CutOff_1_tells .nil)
noncomputable def slices_IndexFunc (s : Sq Int) (y0 : SMine) : Option (Int) := slices_IndexFunc_m.val (s, y0)
theorem slices_IndexFunc_eq (s : Sq Int) (y0 : SMine) : slices_IndexFunc s y0 = (slices_IndexFunc_t s y0).get := slices_IndexFunc_m.val_eq (fun x => (sqD dI (gd x.1 0), SMine.dec (varL (dB x.2 0)))) (fun p => by kernel_rfl) (s, y0)

/-! slices.ContainsFunc[[]int,int] -/
noncomputable def slices_ContainsFunc_t (s : Sq Int) (y0 : SMine) : DT (Bool) :=
 .bind (slices_IndexFunc s y0) fun z0 =>
 .leaf (decide (z0 ≥ (0 : Int)))
noncomputable def slices_ContainsFunc_m : FnM := nfM ((Sq Int) × SMine) (Bool) (fun p => ([sqA 1 (eI .i64) p.1, .fn 28 [.ptr 0 0]], [.var (SMine.enc p.2)])) (fun p => slices_ContainsFunc_t p.1 p.2) (fun r => .bool r) (fun ins _ => [dB ins 0])
noncomputable def slices_ContainsFunc_env : Env := envM [(40, slices_IndexFunc_m.c)] [] [] [] [] 1
theorem slices_ContainsFunc_tells : Tells Try.prog 29 slices_ContainsFunc_m.c := slices_ContainsFunc_m.tells Try.func29 (show ∀ p, arun slices_ContainsFunc_env Try.f29 (slices_ContainsFunc_m.enc p).1 (slices_ContainsFunc_m.enc p).2 = _ from fun p => by kernel_rfl) noLoops (.cons slices_IndexFunc_tells .nil)
noncomputable def slices_ContainsFunc (s : Sq Int) (y0 : SMine) : Option (Bool) := slices_ContainsFunc_m.val (s, y0)
theorem slices_ContainsFunc_eq (s : Sq Int) (y0 : SMine) : slices_ContainsFunc s y0 = (slices_ContainsFunc_t s y0).get := slices_ContainsFunc_m.val_eq (fun x => (sqD dI (gd x.1 0), SMine.dec (varL (dB x.2 0)))) (fun p => by kernel_rfl) (s, y0)

/-! minecontrol/plan.CutOff -/
noncomputable def plan_CutOff_l4_step (u4_1 : Sq SPlace) (u4_2 : Sq SRoad) (u4_4 : (Sq (Sq Int))) (u4_3 : Sq Int) (u4_5 : Int) : DT (LR ((Sq Int) × Int) ((Sq Int)) (Unit)) :=
 .ite (decide (u4_5 < ((u4_4.n : Nat) : Int))) (
 .ite (decide ((0 : Int) ≤ u4_5 ∧ u4_5 < ((u4_4.n : Nat) : Int))) (
 .bind (slices_ContainsFunc (u4_4.f (Int.toNat u4_5)) (SMine.mk u4_1 u4_2)) fun z0 =>
 .ite (!z0) (
 .ite (decide ((u4_3.n + (u4_4.f (Int.toNat u4_5)).n) * 8 ≤ 140737488355328 ∧ (u4_3.n + (u4_4.f (Int.toNat u4_5)).n) ≤ 1099511627776)) (
 .leaf (.next ((Sq.mk (u4_3.n + (u4_4.f (Int.toNat u4_5)).n) (fun k0 => (cond (Nat.blt k0 u4_3.n) (u4_3.f k0) ((u4_4.f (Int.toNat u4_5)).f (k0 - u4_3.n))))), (wr (u4_5 + (1 : Int)))))) (
 .fail)) (
 .leaf (.next (u4_3, (wr (u4_5 + (1 : Int))))))) (
 .fail)) (
 .leaf (.l u4_3))
noncomputable def plan_CutOff_l4_m : LpM := ⟨(Sq SPlace) × (Sq SRoad) × (Sq (Sq Int)), (Sq Int) × Int, (Sq Int), Unit, fun p => ⟨[(3, .own 128 0), (4, .fn 28 [.ptr 0 0]), (9, .own 384 0), (10, .int .i64 ((p.1.2.2.n : Nat) : Int)), (11, .int .i64 p.2.2)], [(0, .var [sqA 2 SPlace.enc p.1.1, sqA 10 SRoad.enc p.1.2.1]), (128, rowA 0 1 3 (eI .i64) p.2.1), (384, rowA 0 1 33 (eQ 1 (eI .i64)) p.1.2.2)], 576⟩, fun f v => plan_CutOff_l4_step f.1 f.2.1 f.2.2 v.1 v.2, true, (.exit 0), (fun x a => ⟨[(3, .own 128 0)], [(0, blkS x 0), (128, rowA 0 1 3 (eI .i64) a), (384, blkS x 384)], 576⟩), .ret, (fun _ _ => ⟨[], [], 0⟩)⟩
noncomputable def plan_CutOff_l4 (u4_1 : Sq SPlace) (u4_2 : Sq SRoad) (u4_4 : (Sq (Sq Int))) (u4_3 : Sq Int) (u4_5 : Int) : Option (((Sq Int)) ⊕ (Unit)) := plan_CutOff_l4_m.val ((u4_1, u4_2, u4_4), (u4_3, u4_5))
theorem plan_CutOff_l4_eq (u4_1 : Sq SPlace) (u4_2 : Sq SRoad) (u4_4 : (Sq (Sq Int))) (u4_3 : Sq Int) (u4_5 : Int) : plan_CutOff_l4 u4_1 u4_2 u4_4 u4_3 u4_5 = fixO (fun v : (Sq Int) × Int => plan_CutOff_l4_step u4_1 u4_2 u4_4 v.1 v.2) (u4_3, u4_5) := plan_CutOff_l4_m.val_eq (fun x => ((sqD SPlace.dec (cellS x 0 0), sqD SRoad.dec (cellS x 0 1), sqB (dQ dI) (blkS x 384)), (sqB dI (blkS x 128), intA (aget x.tm 11)))) (fun p => by kernel_rfl) ((u4_1, u4_2, u4_4), (u4_3, u4_5))
noncomputable def plan_CutOff_t (m : SMine) : DT ((Sq Int)) :=
 .bind (plan_Parts m) fun z1 =>
 .sum (plan_CutOff_l4 m.Places m.Roads z1 (Sq.mk 0 (fun _ => (0 : Int))) (0 : Int)) (fun y0 =>
 .bind (slices_Sort y0) fun z2 =>
 .leaf z2) (fun _ => .fail)
noncomputable def plan_CutOff_m : FnM := nfM (SMine) ((Sq Int)) (fun p => ([.agg (SMine.enc p)], [])) (fun p => plan_CutOff_t p) (fun _ => .own 0 0) (fun _ r => [rowA 0 1 3 (eI .i64) r])
noncomputable def plan_CutOff_env : Env := envM [(17, plan_Parts_m.c), (29, slices_ContainsFunc_m.c), (30, slices_Sort_m.c)] [(4, [3, 4, 9, 10, 11], [3]), (2000030, [], [])] [(4, plan_CutOff_l4_m.c)] [(1000004, [.asrow 128 3 1 (fun _ => (eI .i64) (0 : Int))])] [(4, [0, 128, 384])] 0
noncomputable def plan_CutOff_e : Env := { plan_CutOff_env with nt := 26 }
theorem plan_CutOff_l4_tells : LoopTells plan_CutOff_e (loopOf 4 Try.f14) plan_CutOff_l4_m.c := plan_CutOff_l4_m.tells 576 (fun _ => by kernel_rfl) (fun _ _ _ _ => by kernel_rfl) (fun _ _ _ _ => by kernel_rfl) fun R f v N K => by kernel_rfl
theorem plan_CutOff_tells : Tells Try.prog 14 plan_CutOff_m.c := plan_CutOff_m.tells Try.func14 (show ∀ p, arun plan_CutOff_env Try.f14 (plan_CutOff_m.enc p).1 (plan_CutOff_m.enc p).2 = _ from fun p => by kernel_rfl) (loopsL [loopOf 4 Try.f14] (by kernel_rfl) ⟨lpT (by kernel_rfl) plan_CutOff_l4_tells, trivial⟩) (.cons plan_Parts_tells (.cons slices_ContainsFunc_tells (.cons slices_Sort_tells .nil)))
noncomputable def plan_CutOff (m : SMine) : Option ((Sq Int)) := plan_CutOff_m.val m
theorem plan_CutOff_eq (m : SMine) : plan_CutOff m = (plan_CutOff_t m).get := plan_CutOff_m.val_eq (fun x => SMine.dec (aggL (gd x.1 0))) (fun p => by kernel_rfl) m

/-! minecontrol/minecontrolref01.Has -/
noncomputable def ref01_Has_l2_step (u2_0 : Sq Int) (u2_1 u2_2 : Int) : DT (LR (Int) (Unit) (Unit)) :=
 .ite (decide (u2_2 < ((u2_0.n : Nat) : Int))) (
 .ite (decide ((0 : Int) ≤ u2_2 ∧ u2_2 < ((u2_0.n : Nat) : Int))) (
 .ite ((u2_0.f (Int.toNat u2_2)) == u2_1) (
 .leaf (.r ())) (
 .leaf (.next (wr (u2_2 + (1 : Int)))))) (
 .fail)) (
 .leaf (.l ()))
noncomputable def ref01_Has_l2_m : LpM := ⟨(Sq Int) × Int, Int, Unit, Unit, fun p => ⟨[(0, sqA 1 (eI .i64) p.1.1), (1, .int .i64 p.1.2), (5, .int .i64 p.2)], [], 128⟩, fun f v => ref01_Has_l2_step f.1 f.2 v, false, (.exit 0), (fun _ _ => ⟨[(4, .undef)], [], 128⟩), .ret, (fun _ _ => ⟨[(4, .bool true)], [], 128⟩)⟩
noncomputable def ref01_Has_l2 (u2_0 : Sq Int) (u2_1 u2_2 : Int) : Option ((Unit) ⊕ (Unit)) := ref01_Has_l2_m.val ((u2_0, u2_1), u2_2)
theorem ref01_Has_l2_eq (u2_0 : Sq Int) (u2_1 u2_2 : Int) : ref01_Has_l2 u2_0 u2_1 u2_2 = fixO (fun v : Int => ref01_Has_l2_step u2_0 u2_1 v) u2_2 := ref01_Has_l2_m.val_eq (fun x => ((sqD dI (aget x.tm 0), intA (aget x.tm 1)), intA (aget x.tm 5))) (fun p => by kernel_rfl) ((u2_0, u2_1), u2_2)
noncomputable def ref01_Has_t (l : Sq Int) (n : Int) : DT (Bool) :=
 .sum (ref01_Has_l2 l n (0 : Int)) (fun _ =>
 .leaf false) (fun _ => .leaf true)
noncomputable def ref01_Has_m : FnM := flM ((Sq Int) × Int) (Bool) (fun p => ([sqA 1 (eI .i64) p.1, .int .i64 p.2], [])) (fun p => ref01_Has_t p.1 p.2) (fun r => .bool r) (fun _ => rfl)
noncomputable def ref01_Has_env : Env := envM [] [(2, [0, 1, 5], [4])] [(2, ref01_Has_l2_m.c)] [] [(2, [])] 0
noncomputable def ref01_Has_e : Env := { ref01_Has_env with nt := 18 }
theorem ref01_Has_l2_tells : LoopTells ref01_Has_e (loopOf 2 Try.f22) ref01_Has_l2_m.c := ref01_Has_l2_m.tells 128 (fun _ => by kernel_rfl) (fun _ _ _ _ => by kernel_rfl) (fun _ _ _ _ => by kernel_rfl) fun R f v N K => by kernel_rfl
theorem ref01_Has_tells : Tells Try.prog 22 ref01_Has_m.c := ref01_Has_m.tells Try.func22 (show ∀ p, arun ref01_Has_env Try.f22 (ref01_Has_m.enc p).1 (ref01_Has_m.enc p).2 = _ from fun p => by kernel_rfl) (loopsL [loopOf 2 Try.f22] (by kernel_rfl) ⟨lpT (by kernel_rfl) ref01_Has_l2_tells, trivial⟩) .nil
noncomputable def ref01_Has (l : Sq Int) (n : Int) : Option (Bool) := ref01_Has_m.val (l, n)
theorem ref01_Has_eq (l : Sq Int) (n : Int) : ref01_Has l n = (ref01_Has_t l n).get := ref01_Has_m.val_eq (fun x => (sqD dI (gd x.1 0), intA (gd x.1 1))) (fun p => by kernel_rfl) (l, n)

/-! minecontrol/plan.checkEdit -/
noncomputable def plan_checkEdit_t (m : SMine) (e : SEdit) : DT (Int) :=
 .ite (e.Kind == (1 : Int)) (
 .leaf (0 : Int)) (
 .ite (e.Kind == (2 : Int)) (
 .leaf (0 : Int)) (
 .ite (e.Kind == (3 : Int)) (
 .bind (plan_hasRoad m e.Road) fun z0 =>
 .ite (!z0) (
 .leaf (4 : Int)) (
 .ite (decide ((0 : Int) ≤ e.Road ∧ e.Road < ((m.Roads.n : Nat) : Int))) (
 .ite (e.Kind == (3 : Int)) (
 .ite (m.Roads.f (Int.toNat e.Road)).Closed (
 .leaf (10 : Int)) (
 .ite (e.Kind == (4 : Int)) (
 .ite (!(m.Roads.f (Int.toNat e.Road)).Closed) (.leaf (10 : Int)) (.leaf (0 : Int))) (
 .leaf (0 : Int)))) (
 .ite (e.Kind == (4 : Int)) (
 .ite (!(m.Roads.f (Int.toNat e.Road)).Closed) (.leaf (10 : Int)) (.leaf (0 : Int))) (
 .leaf (0 : Int)))) (
 .fail))) (
 .ite (e.Kind == (4 : Int)) (
 .bind (plan_hasRoad m e.Road) fun z1 =>
 .ite (!z1) (
 .leaf (4 : Int)) (
 .ite (decide ((0 : Int) ≤ e.Road ∧ e.Road < ((m.Roads.n : Nat) : Int))) (
 .ite (e.Kind == (3 : Int)) (
 .ite (m.Roads.f (Int.toNat e.Road)).Closed (
 .leaf (10 : Int)) (
 .ite (e.Kind == (4 : Int)) (
 .ite (!(m.Roads.f (Int.toNat e.Road)).Closed) (.leaf (10 : Int)) (.leaf (0 : Int))) (
 .leaf (0 : Int)))) (
 .ite (e.Kind == (4 : Int)) (
 .ite (!(m.Roads.f (Int.toNat e.Road)).Closed) (.leaf (10 : Int)) (.leaf (0 : Int))) (
 .leaf (0 : Int)))) (
 .fail))) (
 .ite (e.Kind == (5 : Int)) (
 .bind (plan_hasRoad m e.Road) fun z2 =>
 .ite (!z2) (
 .leaf (4 : Int)) (
 .ite (decide ((0 : Int) ≤ e.Road ∧ e.Road < ((m.Roads.n : Nat) : Int))) (
 .ite (e.Kind == (3 : Int)) (
 .ite (m.Roads.f (Int.toNat e.Road)).Closed (
 .leaf (10 : Int)) (
 .ite (e.Kind == (4 : Int)) (
 .ite (!(m.Roads.f (Int.toNat e.Road)).Closed) (.leaf (10 : Int)) (.leaf (0 : Int))) (
 .leaf (0 : Int)))) (
 .ite (e.Kind == (4 : Int)) (
 .ite (!(m.Roads.f (Int.toNat e.Road)).Closed) (.leaf (10 : Int)) (.leaf (0 : Int))) (
 .leaf (0 : Int)))) (
 .fail))) (
 .ite (e.Kind == (6 : Int)) (
 .bind (plan_hasRoad m e.Road) fun z3 =>
 .ite (!z3) (
 .leaf (4 : Int)) (
 .ite (decide ((0 : Int) ≤ e.Road ∧ e.Road < ((m.Roads.n : Nat) : Int))) (
 .ite (e.Kind == (3 : Int)) (
 .ite (m.Roads.f (Int.toNat e.Road)).Closed (
 .leaf (10 : Int)) (
 .ite (e.Kind == (4 : Int)) (
 .ite (!(m.Roads.f (Int.toNat e.Road)).Closed) (.leaf (10 : Int)) (.leaf (0 : Int))) (
 .leaf (0 : Int)))) (
 .ite (e.Kind == (4 : Int)) (
 .ite (!(m.Roads.f (Int.toNat e.Road)).Closed) (.leaf (10 : Int)) (.leaf (0 : Int))) (
 .leaf (0 : Int)))) (
 .fail))) (
 .leaf (5 : Int)))))))
noncomputable def plan_checkEdit_m : FnM := flM (SMine × SEdit) (Int) (fun p => ([.agg (SMine.enc p.1), .agg (SEdit.enc p.2)], [])) (fun p => plan_checkEdit_t p.1 p.2) (fun r => .int .i64 r) (fun _ => rfl)
noncomputable def plan_checkEdit_env : Env := envM [(27, plan_hasRoad_m.c)] [] [] [] [] 0
theorem plan_checkEdit_tells : Tells Try.prog 37 plan_checkEdit_m.c := plan_checkEdit_m.tells Try.func37 (show ∀ p, arun plan_checkEdit_env Try.f37 (plan_checkEdit_m.enc p).1 (plan_checkEdit_m.enc p).2 = _ from fun p => by kernel_rfl) noLoops (.cons plan_hasRoad_tells .nil)
noncomputable def plan_checkEdit (m : SMine) (e : SEdit) : Option (Int) := plan_checkEdit_m.val (m, e)
theorem plan_checkEdit_eq (m : SMine) (e : SEdit) : plan_checkEdit m e = (plan_checkEdit_t m e).get := plan_checkEdit_m.val_eq (fun x => (SMine.dec (aggL (gd x.1 0)), SEdit.dec (aggL (gd x.1 1)))) (fun p => by kernel_rfl) (m, e)

/-! slices.Clone[[]minecontrol/api.Place,minecontrol/api.Place] -/
noncomputable def slices_Clone_t (s : Sq SPlace) : DT ((Sq SPlace)) :=
 .ite (decide (0 < s.n)) (
 .ite (decide ((0 + s.n) * 16 ≤ 140737488355328 ∧ (0 + s.n) ≤ 1099511627776)) (.leaf (Sq.mk (0 + s.n) (fun k0 => (s.f k0)))) (.fail)) (
 .fail)
noncomputable def slices_Clone_m : FnM := nfM ((Sq SPlace)) ((Sq SPlace)) (fun p => ([sqA 2 SPlace.enc p], [])) (fun p => slices_Clone_t p) (fun _ => .own 0 0) (fun _ r => [rowA 0 2 50 SPlace.enc r])
noncomputable def slices_Clone_env : Env := envM [] [] [] [] [] 0
theorem slices_Clone_tells : Tells Try.prog 58 slices_Clone_m.c := slices_Clone_m.tells Try.func58 (show ∀ p, arun slices_Clone_env Try.f58 (slices_Clone_m.enc p).1 (slices_Clone_m.enc p).2 = _ from fun p => by kernel_rfl) noLoops .nil
noncomputable def slices_Clone (s : Sq SPlace) : Option ((Sq SPlace)) := slices_Clone_m.val s
theorem slices_Clone_eq (s : Sq SPlace) : slices_Clone s = (slices_Clone_t s).get := slices_Clone_m.val_eq (fun x => sqD SPlace.dec (gd x.1 0)) (fun p => by kernel_rfl) s

/-! slices.Clone[[]minecontrol/api.Road,minecontrol/api.Road] -/
noncomputable def slices_Clone_v2_t (s : Sq SRoad) : DT ((Sq SRoad)) :=
 .ite (decide (0 < s.n)) (
 .ite (decide ((0 + s.n) * 72 ≤ 140737488355328 ∧ (0 + s.n) ≤ 1099511627776)) (.leaf (Sq.mk (0 + s.n) (fun k0 => (s.f k0)))) (.fail)) (
 .fail)
noncomputable def slices_Clone_v2_m : FnM := nfM ((Sq SRoad)) ((Sq SRoad)) (fun p => ([sqA 10 SRoad.enc p], [])) (fun p => slices_Clone_v2_t p) (fun _ => .own 0 0) (fun _ r => [rowA 0 10 45 SRoad.enc r])
noncomputable def slices_Clone_v2_env : Env := envM [] [] [] [] [] 0
theorem slices_Clone_v2_tells : Tells Try.prog 59 slices_Clone_v2_m.c := slices_Clone_v2_m.tells Try.func59 (show ∀ p, arun slices_Clone_v2_env Try.f59 (slices_Clone_v2_m.enc p).1 (slices_Clone_v2_m.enc p).2 = _ from fun p => by kernel_rfl) noLoops .nil
noncomputable def slices_Clone_v2 (s : Sq SRoad) : Option ((Sq SRoad)) := slices_Clone_v2_m.val s
theorem slices_Clone_v2_eq (s : Sq SRoad) : slices_Clone_v2 s = (slices_Clone_v2_t s).get := slices_Clone_v2_m.val_eq (fun x => sqD SRoad.dec (gd x.1 0)) (fun p => by kernel_rfl) s

/-! minecontrol/plan.clone -/
noncomputable def plan_clone_t (m : SMine) : DT (SMine) :=
 .bind (slices_Clone m.Places) fun z0 =>
 .bind (slices_Clone_v2 m.Roads) fun z1 =>
 .leaf (SMine.mk z0 z1)
noncomputable def plan_clone_m : FnM := nfM (SMine) (SMine) (fun p => ([.agg (SMine.enc p)], [])) (fun p => plan_clone_t p) (fun _ => .agg [.own 0 0, .own 1 0]) (fun _ r => [rowA 0 2 50 SPlace.enc r.Places, rowA 0 10 45 SRoad.enc r.Roads])
noncomputable def plan_clone_env : Env := envM [(58, slices_Clone_m.c), (59, slices_Clone_v2_m.c)] [] [] [] [] 0
theorem plan_clone_tells : Tells Try.prog 45 plan_clone_m.c := plan_clone_m.tells Try.func45 (show ∀ p, arun plan_clone_env Try.f45 (plan_clone_m.enc p).1 (plan_clone_m.enc p).2 = _ from fun p => by kernel_rfl) noLoops (.cons slices_Clone_tells (.cons slices_Clone_v2_tells .nil))
noncomputable def plan_clone (m : SMine) : Option (SMine) := plan_clone_m.val m
theorem plan_clone_eq (m : SMine) : plan_clone m = (plan_clone_t m).get := plan_clone_m.val_eq (fun x => SMine.dec (aggL (gd x.1 0))) (fun p => by kernel_rfl) m

/-! minecontrol/plan.edit -/
noncomputable def plan_edit_t (m : SMine) (e : SEdit) : DT (SMine) :=
 .bind (plan_clone m) fun z0 =>
 .ite (e.Kind == (1 : Int)) (
 .ite (decide ((z0.Places.n + 1) * 16 ≤ 140737488355328 ∧ (z0.Places.n + 1) ≤ 1099511627776)) (.leaf (SMine.mk (Sq.mk (z0.Places.n + 1) (fun k0 => (SPlace.mk (cond (Nat.blt k0 z0.Places.n) (z0.Places.f k0).Height e.Place.Height) (cond (Nat.blt k0 z0.Places.n) (z0.Places.f k0).Surface e.Place.Surface)))) z0.Roads)) (.fail)) (
 .ite (e.Kind == (2 : Int)) (
 .ite (decide ((z0.Roads.n + 1) * 72 ≤ 140737488355328 ∧ (z0.Roads.n + 1) ≤ 1099511627776)) (.leaf (SMine.mk z0.Places (Sq.mk (z0.Roads.n + 1) (fun k1 => (SRoad.mk (cond (Nat.blt k1 z0.Roads.n) (z0.Roads.f k1).From e.New.From) (cond (Nat.blt k1 z0.Roads.n) (z0.Roads.f k1).To e.New.To) (cond (Nat.blt k1 z0.Roads.n) (z0.Roads.f k1).Length e.New.Length) (cond (Nat.blt k1 z0.Roads.n) (z0.Roads.f k1).Area e.New.Area) (cond (Nat.blt k1 z0.Roads.n) (z0.Roads.f k1).Walk e.New.Walk) (cond (Nat.blt k1 z0.Roads.n) (z0.Roads.f k1).Closed e.New.Closed) (SSpan.mk (cond (Nat.blt k1 z0.Roads.n) (z0.Roads.f k1).Rest.Low e.New.Rest.Low) (cond (Nat.blt k1 z0.Roads.n) (z0.Roads.f k1).Rest.High e.New.Rest.High)) (SSpan.mk (cond (Nat.blt k1 z0.Roads.n) (z0.Roads.f k1).Lift.Low e.New.Lift.Low) (cond (Nat.blt k1 z0.Roads.n) (z0.Roads.f k1).Lift.High e.New.Lift.High))))))) (.fail)) (
 .ite (e.Kind == (3 : Int)) (
 .ite (decide ((0 : Int) ≤ e.Road ∧ e.Road < ((z0.Roads.n : Nat) : Int))) (.leaf (SMine.mk z0.Places (Sq.mk z0.Roads.n (fun k2 => (SRoad.mk (cond (Nat.beq k2 (Int.toNat e.Road)) (z0.Roads.f (Int.toNat e.Road)).From (z0.Roads.f k2).From) (cond (Nat.beq k2 (Int.toNat e.Road)) (z0.Roads.f (Int.toNat e.Road)).To (z0.Roads.f k2).To) (cond (Nat.beq k2 (Int.toNat e.Road)) (z0.Roads.f (Int.toNat e.Road)).Length (z0.Roads.f k2).Length) (cond (Nat.beq k2 (Int.toNat e.Road)) (z0.Roads.f (Int.toNat e.Road)).Area (z0.Roads.f k2).Area) (cond (Nat.beq k2 (Int.toNat e.Road)) (z0.Roads.f (Int.toNat e.Road)).Walk (z0.Roads.f k2).Walk) (cond (Nat.beq k2 (Int.toNat e.Road)) true (z0.Roads.f k2).Closed) (SSpan.mk (cond (Nat.beq k2 (Int.toNat e.Road)) (z0.Roads.f (Int.toNat e.Road)).Rest.Low (z0.Roads.f k2).Rest.Low) (cond (Nat.beq k2 (Int.toNat e.Road)) (z0.Roads.f (Int.toNat e.Road)).Rest.High (z0.Roads.f k2).Rest.High)) (SSpan.mk (cond (Nat.beq k2 (Int.toNat e.Road)) (z0.Roads.f (Int.toNat e.Road)).Lift.Low (z0.Roads.f k2).Lift.Low) (cond (Nat.beq k2 (Int.toNat e.Road)) (z0.Roads.f (Int.toNat e.Road)).Lift.High (z0.Roads.f k2).Lift.High))))))) (.fail)) (
 .ite (e.Kind == (4 : Int)) (
 .ite (decide ((0 : Int) ≤ e.Road ∧ e.Road < ((z0.Roads.n : Nat) : Int))) (.leaf (SMine.mk z0.Places (Sq.mk z0.Roads.n (fun k3 => (SRoad.mk (cond (Nat.beq k3 (Int.toNat e.Road)) (z0.Roads.f (Int.toNat e.Road)).From (z0.Roads.f k3).From) (cond (Nat.beq k3 (Int.toNat e.Road)) (z0.Roads.f (Int.toNat e.Road)).To (z0.Roads.f k3).To) (cond (Nat.beq k3 (Int.toNat e.Road)) (z0.Roads.f (Int.toNat e.Road)).Length (z0.Roads.f k3).Length) (cond (Nat.beq k3 (Int.toNat e.Road)) (z0.Roads.f (Int.toNat e.Road)).Area (z0.Roads.f k3).Area) (cond (Nat.beq k3 (Int.toNat e.Road)) (z0.Roads.f (Int.toNat e.Road)).Walk (z0.Roads.f k3).Walk) (cond (Nat.beq k3 (Int.toNat e.Road)) false (z0.Roads.f k3).Closed) (SSpan.mk (cond (Nat.beq k3 (Int.toNat e.Road)) (z0.Roads.f (Int.toNat e.Road)).Rest.Low (z0.Roads.f k3).Rest.Low) (cond (Nat.beq k3 (Int.toNat e.Road)) (z0.Roads.f (Int.toNat e.Road)).Rest.High (z0.Roads.f k3).Rest.High)) (SSpan.mk (cond (Nat.beq k3 (Int.toNat e.Road)) (z0.Roads.f (Int.toNat e.Road)).Lift.Low (z0.Roads.f k3).Lift.Low) (cond (Nat.beq k3 (Int.toNat e.Road)) (z0.Roads.f (Int.toNat e.Road)).Lift.High (z0.Roads.f k3).Lift.High))))))) (.fail)) (
 .ite (e.Kind == (5 : Int)) (
 .ite (decide ((0 : Int) ≤ e.Road ∧ e.Road < ((z0.Roads.n : Nat) : Int))) (.leaf (SMine.mk z0.Places (Sq.mk z0.Roads.n (fun k4 => (SRoad.mk (cond (Nat.beq k4 (Int.toNat e.Road)) (z0.Roads.f (Int.toNat e.Road)).From (z0.Roads.f k4).From) (cond (Nat.beq k4 (Int.toNat e.Road)) (z0.Roads.f (Int.toNat e.Road)).To (z0.Roads.f k4).To) (cond (Nat.beq k4 (Int.toNat e.Road)) (z0.Roads.f (Int.toNat e.Road)).Length (z0.Roads.f k4).Length) (cond (Nat.beq k4 (Int.toNat e.Road)) (z0.Roads.f (Int.toNat e.Road)).Area (z0.Roads.f k4).Area) (cond (Nat.beq k4 (Int.toNat e.Road)) (z0.Roads.f (Int.toNat e.Road)).Walk (z0.Roads.f k4).Walk) (cond (Nat.beq k4 (Int.toNat e.Road)) (z0.Roads.f (Int.toNat e.Road)).Closed (z0.Roads.f k4).Closed) (SSpan.mk (cond (Nat.beq k4 (Int.toNat e.Road)) e.Span.Low (z0.Roads.f k4).Rest.Low) (cond (Nat.beq k4 (Int.toNat e.Road)) e.Span.High (z0.Roads.f k4).Rest.High)) (SSpan.mk (cond (Nat.beq k4 (Int.toNat e.Road)) (z0.Roads.f (Int.toNat e.Road)).Lift.Low (z0.Roads.f k4).Lift.Low) (cond (Nat.beq k4 (Int.toNat e.Road)) (z0.Roads.f (Int.toNat e.Road)).Lift.High (z0.Roads.f k4).Lift.High))))))) (.fail)) (
 .ite (e.Kind == (6 : Int)) (
 .ite (decide ((0 : Int) ≤ e.Road ∧ e.Road < ((z0.Roads.n : Nat) : Int))) (.leaf (SMine.mk z0.Places (Sq.mk z0.Roads.n (fun k5 => (SRoad.mk (cond (Nat.beq k5 (Int.toNat e.Road)) (z0.Roads.f (Int.toNat e.Road)).From (z0.Roads.f k5).From) (cond (Nat.beq k5 (Int.toNat e.Road)) (z0.Roads.f (Int.toNat e.Road)).To (z0.Roads.f k5).To) (cond (Nat.beq k5 (Int.toNat e.Road)) (z0.Roads.f (Int.toNat e.Road)).Length (z0.Roads.f k5).Length) (cond (Nat.beq k5 (Int.toNat e.Road)) (z0.Roads.f (Int.toNat e.Road)).Area (z0.Roads.f k5).Area) (cond (Nat.beq k5 (Int.toNat e.Road)) (z0.Roads.f (Int.toNat e.Road)).Walk (z0.Roads.f k5).Walk) (cond (Nat.beq k5 (Int.toNat e.Road)) (z0.Roads.f (Int.toNat e.Road)).Closed (z0.Roads.f k5).Closed) (SSpan.mk (cond (Nat.beq k5 (Int.toNat e.Road)) (z0.Roads.f (Int.toNat e.Road)).Rest.Low (z0.Roads.f k5).Rest.Low) (cond (Nat.beq k5 (Int.toNat e.Road)) (z0.Roads.f (Int.toNat e.Road)).Rest.High (z0.Roads.f k5).Rest.High)) (SSpan.mk (cond (Nat.beq k5 (Int.toNat e.Road)) e.Span.Low (z0.Roads.f k5).Lift.Low) (cond (Nat.beq k5 (Int.toNat e.Road)) e.Span.High (z0.Roads.f k5).Lift.High))))))) (.fail)) (
 .leaf z0))))))
noncomputable def plan_edit_m : FnM := nfM (SMine × SEdit) (SMine) (fun p => ([.agg (SMine.enc p.1), .agg (SEdit.enc p.2)], [])) (fun p => plan_edit_t p.1 p.2) (fun _ => .agg [.own 0 0, .own 1 0]) (fun _ r => [rowA 0 2 50 SPlace.enc r.Places, rowA 0 10 45 SRoad.enc r.Roads])
noncomputable def plan_edit_env : Env := envM [(45, plan_clone_m.c)] [] [] [] [] 0
theorem plan_edit_tells : Tells Try.prog 38 plan_edit_m.c := plan_edit_m.tells Try.func38 (show ∀ p, arun plan_edit_env Try.f38 (plan_edit_m.enc p).1 (plan_edit_m.enc p).2 = _ from fun p => by kernel_rfl) noLoops (.cons plan_clone_tells .nil)
noncomputable def plan_edit (m : SMine) (e : SEdit) : Option (SMine) := plan_edit_m.val (m, e)
theorem plan_edit_eq (m : SMine) (e : SEdit) : plan_edit m e = (plan_edit_t m e).get := plan_edit_m.val_eq (fun x => (SMine.dec (aggL (gd x.1 0)), SEdit.dec (aggL (gd x.1 1)))) (fun p => by kernel_rfl) (m, e)

/-! minecontrol/plan.Apply -/
noncomputable def plan_Apply_t (m : SMine) (e : SEdit) : DT (SMine × Int) :=
 .bind (plan_Check m) fun z0 =>
 .ite (z0 != (0 : Int)) (
 .leaf ((SMine.mk (Sq.mk 0 (fun _ => (SPlace.mk (0 : Int) false))) (Sq.mk 0 (fun _ => (SRoad.mk (0 : Int) (0 : Int) (0 : Int) (0 : Int) false false (SSpan.mk (0 : Int) (0 : Int)) (SSpan.mk (0 : Int) (0 : Int)))))), z0)) (
 .bind (plan_checkEdit m e) fun z1 =>
 .ite (z1 != (0 : Int)) (
 .leaf ((SMine.mk (Sq.mk 0 (fun _ => (SPlace.mk (0 : Int) false))) (Sq.mk 0 (fun _ => (SRoad.mk (0 : Int) (0 : Int) (0 : Int) (0 : Int) false false (SSpan.mk (0 : Int) (0 : Int)) (SSpan.mk (0 : Int) (0 : Int)))))), z1)) (
 .bind (plan_edit m e) fun z2 =>
 .bind (plan_Check z2) fun z3 =>
 .ite (z3 != (0 : Int)) (.leaf ((SMine.mk (Sq.mk 0 (fun _ => (SPlace.mk (0 : Int) false))) (Sq.mk 0 (fun _ => (SRoad.mk (0 : Int) (0 : Int) (0 : Int) (0 : Int) false false (SSpan.mk (0 : Int) (0 : Int)) (SSpan.mk (0 : Int) (0 : Int)))))), z3)) (.leaf (z2, (0 : Int)))))
noncomputable def plan_Apply_m : FnM := nfM (SMine × SEdit) (SMine × Int) (fun p => ([.agg (SMine.enc p.1), .agg (SEdit.enc p.2)], [])) (fun p => plan_Apply_t p.1 p.2) (fun r => .tup [.agg [.own 0 0, .own 1 0], .int .i64 r.2]) (fun _ r => [rowA 0 2 50 SPlace.enc r.1.Places, rowA 0 10 45 SRoad.enc r.1.Roads])
noncomputable def plan_Apply_env : Env := envM [(36, plan_Check_m.c), (37, plan_checkEdit_m.c), (38, plan_edit_m.c)] [] [] [(2000000, [.asrow 576 50 2 (fun _ => SPlace.enc (SPlace.mk (0 : Int) false)), .asrow 1216 50 2 (fun _ => SPlace.enc (SPlace.mk (0 : Int) false)), .asrow 2112 50 2 (fun _ => SPlace.enc (SPlace.mk (0 : Int) false)), .asrow 577 45 10 (fun _ => SRoad.enc (SRoad.mk (0 : Int) (0 : Int) (0 : Int) (0 : Int) false false (SSpan.mk (0 : Int) (0 : Int)) (SSpan.mk (0 : Int) (0 : Int)))), .asrow 1217 45 10 (fun _ => SRoad.enc (SRoad.mk (0 : Int) (0 : Int) (0 : Int) (0 : Int) false false (SSpan.mk (0 : Int) (0 : Int)) (SSpan.mk (0 : Int) (0 : Int)))), .asrow 2113 45 10 (fun _ => SRoad.enc (SRoad.mk (0 : Int) (0 : Int) (0 : Int) (0 : Int) false false (SSpan.mk (0 : Int) (0 : Int)) (SSpan.mk (0 : Int) (0 : Int))))])] [] 0
theorem plan_Apply_tells : Tells Try.prog 20 plan_Apply_m.c := plan_Apply_m.tells Try.func20 (show ∀ p, arun plan_Apply_env Try.f20 (plan_Apply_m.enc p).1 (plan_Apply_m.enc p).2 = _ from fun p => by kernel_rfl) noLoops (.cons plan_Check_tells (.cons plan_checkEdit_tells (.cons plan_edit_tells .nil)))
noncomputable def plan_Apply (m : SMine) (e : SEdit) : Option (SMine × Int) := plan_Apply_m.val (m, e)
theorem plan_Apply_eq (m : SMine) (e : SEdit) : plan_Apply m e = (plan_Apply_t m e).get := plan_Apply_m.val_eq (fun x => (SMine.dec (aggL (gd x.1 0)), SEdit.dec (aggL (gd x.1 1)))) (fun p => by kernel_rfl) (m, e)

/-! minecontrol/minecontrolref01.Ints -/
noncomputable def ref01_Ints_l4_step (u4_0 u4_1 : Sq Int) (u4_2 : Int) : DT (LR (Int) (Unit) (Unit)) :=
 .ite (decide (u4_2 < ((u4_0.n : Nat) : Int))) (
 .ite (decide ((0 : Int) ≤ u4_2 ∧ u4_2 < ((u4_0.n : Nat) : Int))) (
 .ite (decide ((0 : Int) ≤ u4_2 ∧ u4_2 < ((u4_1.n : Nat) : Int))) (
 .ite ((u4_0.f (Int.toNat u4_2)) != (u4_1.f (Int.toNat u4_2))) (
 .leaf (.r ())) (
 .leaf (.next (wr (u4_2 + (1 : Int)))))) (
 .fail)) (
 .fail)) (
 .leaf (.l ()))
noncomputable def ref01_Ints_l4_m : LpM := ⟨(Sq Int) × (Sq Int), Int, Unit, Unit, fun p => ⟨[(0, sqA 1 (eI .i64) p.1.1), (1, sqA 1 (eI .i64) p.1.2), (5, .int .i64 p.2)], [], 512⟩, fun f v => ref01_Ints_l4_step f.1 f.2 v, false, (.exit 0), (fun _ _ => ⟨[(4, .undef)], [], 512⟩), .ret, (fun _ _ => ⟨[(4, .bool false)], [], 512⟩)⟩
noncomputable def ref01_Ints_l4 (u4_0 u4_1 : Sq Int) (u4_2 : Int) : Option ((Unit) ⊕ (Unit)) := ref01_Ints_l4_m.val ((u4_0, u4_1), u4_2)
theorem ref01_Ints_l4_eq (u4_0 u4_1 : Sq Int) (u4_2 : Int) : ref01_Ints_l4 u4_0 u4_1 u4_2 = fixO (fun v : Int => ref01_Ints_l4_step u4_0 u4_1 v) u4_2 := ref01_Ints_l4_m.val_eq (fun x => ((sqD dI (aget x.tm 0), sqD dI (aget x.tm 1)), intA (aget x.tm 5))) (fun p => by kernel_rfl) ((u4_0, u4_1), u4_2)
noncomputable def ref01_Ints_t (a b : Sq Int) : DT (Bool) :=
 .ite (((a.n : Nat) : Int) != ((b.n : Nat) : Int)) (
 .leaf false) (
 .sum (ref01_Ints_l4 a b (0 : Int)) (fun _ =>
 .leaf true) (fun _ => .leaf false))
noncomputable def ref01_Ints_m : FnM := flM ((Sq Int) × (Sq Int)) (Bool) (fun p => ([sqA 1 (eI .i64) p.1, sqA 1 (eI .i64) p.2], [])) (fun p => ref01_Ints_t p.1 p.2) (fun r => .bool r) (fun _ => rfl)
noncomputable def ref01_Ints_env : Env := envM [] [(4, [0, 1, 5], [4])] [(4, ref01_Ints_l4_m.c)] [] [(4, [])] 0
noncomputable def ref01_Ints_e : Env := { ref01_Ints_env with nt := 26 }
theorem ref01_Ints_l4_tells : LoopTells ref01_Ints_e (loopOf 4 Try.f9) ref01_Ints_l4_m.c := ref01_Ints_l4_m.tells 512 (fun _ => by kernel_rfl) (fun _ _ _ _ => by kernel_rfl) (fun _ _ _ _ => by kernel_rfl) fun R f v N K => by kernel_rfl
theorem ref01_Ints_tells : Tells Try.prog 9 ref01_Ints_m.c := ref01_Ints_m.tells Try.func9 (show ∀ p, arun ref01_Ints_env Try.f9 (ref01_Ints_m.enc p).1 (ref01_Ints_m.enc p).2 = _ from fun p => by kernel_rfl) (loopsL [loopOf 4 Try.f9] (by kernel_rfl) ⟨lpT (by kernel_rfl) ref01_Ints_l4_tells, trivial⟩) .nil
noncomputable def ref01_Ints (a b : Sq Int) : Option (Bool) := ref01_Ints_m.val (a, b)
theorem ref01_Ints_eq (a b : Sq Int) : ref01_Ints a b = (ref01_Ints_t a b).get := ref01_Ints_m.val_eq (fun x => (sqD dI (gd x.1 0), sqD dI (gd x.1 1))) (fun p => by kernel_rfl) (a, b)

/-! minecontrol/minecontroldraw.Mod -/
noncomputable def Mod_t (k n : Int) : DT (Int) :=
 .ite (decide (n < (1 : Int))) (
 .leaf (0 : Int)) (
 .ite (n != 0) (
 .ite (decide ((Int.tmod k n) < (0 : Int))) (.leaf (wr ((Int.tmod k n) + n))) (.leaf (Int.tmod k n))) (
 .fail))
noncomputable def Mod_m : FnM := flM (Int × Int) (Int) (fun p => ([.int .i64 p.1, .int .i64 p.2], [])) (fun p => Mod_t p.1 p.2) (fun r => .int .i64 r) (fun _ => rfl)
noncomputable def Mod_env : Env := envM [] [] [] [] [] 0
theorem Mod_tells : Tells Try.prog 8 Mod_m.c := Mod_m.tells Try.func8 (show ∀ p, arun Mod_env Try.f8 (Mod_m.enc p).1 (Mod_m.enc p).2 = _ from fun p => by kernel_rfl) noLoops .nil
noncomputable def Mod (k n : Int) : Option (Int) := Mod_m.val (k, n)
theorem Mod_eq (k n : Int) : Mod k n = (Mod_t k n).get := Mod_m.val_eq (fun x => (intA (gd x.1 0), intA (gd x.1 1))) (fun p => by kernel_rfl) (k, n)

/-! minecontrol/minecontrolref01.Same -/
noncomputable def ref01_Same_l4_step (u4_0 : Sq SPlace) (_u4_1 : Sq SRoad) (u4_2 : Sq SPlace) (_u4_3 : Sq SRoad) (u4_4 : Int) : DT (LR (Int) (Unit) (Unit)) :=
 .ite (decide (u4_4 < ((u4_0.n : Nat) : Int))) (
 .ite (decide ((0 : Int) ≤ u4_4 ∧ u4_4 < ((u4_0.n : Nat) : Int))) (
 .ite (decide ((0 : Int) ≤ u4_4 ∧ u4_4 < ((u4_2.n : Nat) : Int))) (
 .ite (!(((u4_0.f (Int.toNat u4_4)).Height == (u4_2.f (Int.toNat u4_4)).Height) && (((u4_0.f (Int.toNat u4_4)).Surface == (u4_2.f (Int.toNat u4_4)).Surface) && true))) (
 .leaf (.r ())) (
 .leaf (.next (wr (u4_4 + (1 : Int)))))) (
 .fail)) (
 .fail)) (
 .leaf (.l ()))
noncomputable def ref01_Same_l4_m : LpM := ⟨(Sq SPlace) × (Sq SRoad) × (Sq SPlace) × (Sq SRoad), Int, Unit, Unit, fun p => ⟨[(2, .ptr 0 0), (3, .ptr 64 0), (5, .int .i64 p.2)], [(0, .var [sqA 2 SPlace.enc p.1.1, sqA 10 SRoad.enc p.1.2.1]), (64, .var [sqA 2 SPlace.enc p.1.2.2.1, sqA 10 SRoad.enc p.1.2.2.2])], 1344⟩, fun f v => ref01_Same_l4_step f.1 f.2.1 f.2.2.1 f.2.2.2 v, false, (.exit 0), (fun x _ => ⟨[(2, .ptr 0 0), (3, .ptr 64 0), (4, .undef)], [(0, blkS x 0), (64, blkS x 64)], 1344⟩), .ret, (fun x _ => ⟨[(2, .ptr 0 0), (3, .ptr 64 0), (4, .bool false)], [(0, blkS x 0), (64, blkS x 64)], 1344⟩)⟩
noncomputable def ref01_Same_l4 (u4_0 : Sq SPlace) (u4_1 : Sq SRoad) (u4_2 : Sq SPlace) (u4_3 : Sq SRoad) (u4_4 : Int) : Option ((Unit) ⊕ (Unit)) := ref01_Same_l4_m.val ((u4_0, u4_1, u4_2, u4_3), u4_4)
theorem ref01_Same_l4_eq (u4_0 : Sq SPlace) (u4_1 : Sq SRoad) (u4_2 : Sq SPlace) (u4_3 : Sq SRoad) (u4_4 : Int) : ref01_Same_l4 u4_0 u4_1 u4_2 u4_3 u4_4 = fixO (fun v : Int => ref01_Same_l4_step u4_0 u4_1 u4_2 u4_3 v) u4_4 := ref01_Same_l4_m.val_eq (fun x => ((sqD SPlace.dec (cellS x 0 0), sqD SRoad.dec (cellS x 0 1), sqD SPlace.dec (cellS x 64 0), sqD SRoad.dec (cellS x 64 1)), intA (aget x.tm 5))) (fun p => by kernel_rfl) ((u4_0, u4_1, u4_2, u4_3), u4_4)
noncomputable def ref01_Same_l9_step (_u9_0 : Sq SPlace) (u9_1 : Sq SRoad) (_u9_2 : Sq SPlace) (u9_3 : Sq SRoad) (u9_4 : Int) : DT (LR (Int) (Unit) (Unit)) :=
 .ite (decide (u9_4 < ((u9_1.n : Nat) : Int))) (
 .ite (decide ((0 : Int) ≤ u9_4 ∧ u9_4 < ((u9_1.n : Nat) : Int))) (
 .ite (decide ((0 : Int) ≤ u9_4 ∧ u9_4 < ((u9_3.n : Nat) : Int))) (
 .ite (!(((u9_1.f (Int.toNat u9_4)).From == (u9_3.f (Int.toNat u9_4)).From) && (((u9_1.f (Int.toNat u9_4)).To == (u9_3.f (Int.toNat u9_4)).To) && (((u9_1.f (Int.toNat u9_4)).Length == (u9_3.f (Int.toNat u9_4)).Length) && (((u9_1.f (Int.toNat u9_4)).Area == (u9_3.f (Int.toNat u9_4)).Area) && (((u9_1.f (Int.toNat u9_4)).Walk == (u9_3.f (Int.toNat u9_4)).Walk) && (((u9_1.f (Int.toNat u9_4)).Closed == (u9_3.f (Int.toNat u9_4)).Closed) && (((u9_1.f (Int.toNat u9_4)).Rest.Low == (u9_3.f (Int.toNat u9_4)).Rest.Low) && (((u9_1.f (Int.toNat u9_4)).Rest.High == (u9_3.f (Int.toNat u9_4)).Rest.High) && (((u9_1.f (Int.toNat u9_4)).Lift.Low == (u9_3.f (Int.toNat u9_4)).Lift.Low) && (((u9_1.f (Int.toNat u9_4)).Lift.High == (u9_3.f (Int.toNat u9_4)).Lift.High) && true))))))))))) (
 .leaf (.r ())) (
 .leaf (.next (wr (u9_4 + (1 : Int)))))) (
 .fail)) (
 .fail)) (
 .leaf (.l ()))
noncomputable def ref01_Same_l9_m : LpM := ⟨(Sq SPlace) × (Sq SRoad) × (Sq SPlace) × (Sq SRoad), Int, Unit, Unit, fun p => ⟨[(2, .ptr 0 0), (3, .ptr 64 0), (6, .int .i64 p.2)], [(0, .var [sqA 2 SPlace.enc p.1.1, sqA 10 SRoad.enc p.1.2.1]), (64, .var [sqA 2 SPlace.enc p.1.2.2.1, sqA 10 SRoad.enc p.1.2.2.2])], 1408⟩, fun f v => ref01_Same_l9_step f.1 f.2.1 f.2.2.1 f.2.2.2 v, false, (.exit 2), (fun x _ => ⟨[(4, .undef)], [(0, blkS x 0), (64, blkS x 64)], 1408⟩), .ret, (fun x _ => ⟨[(4, .bool false)], [(0, blkS x 0), (64, blkS x 64)], 1408⟩)⟩
noncomputable def ref01_Same_l9 (u9_0 : Sq SPlace) (u9_1 : Sq SRoad) (u9_2 : Sq SPlace) (u9_3 : Sq SRoad) (u9_4 : Int) : Option ((Unit) ⊕ (Unit)) := ref01_Same_l9_m.val ((u9_0, u9_1, u9_2, u9_3), u9_4)
theorem ref01_Same_l9_eq (u9_0 : Sq SPlace) (u9_1 : Sq SRoad) (u9_2 : Sq SPlace) (u9_3 : Sq SRoad) (u9_4 : Int) : ref01_Same_l9 u9_0 u9_1 u9_2 u9_3 u9_4 = fixO (fun v : Int => ref01_Same_l9_step u9_0 u9_1 u9_2 u9_3 v) u9_4 := ref01_Same_l9_m.val_eq (fun x => ((sqD SPlace.dec (cellS x 0 0), sqD SRoad.dec (cellS x 0 1), sqD SPlace.dec (cellS x 64 0), sqD SRoad.dec (cellS x 64 1)), intA (aget x.tm 6))) (fun p => by kernel_rfl) ((u9_0, u9_1, u9_2, u9_3), u9_4)
noncomputable def ref01_Same_t (a b : SMine) : DT (Bool) :=
 .ite (((a.Places.n : Nat) : Int) != ((b.Places.n : Nat) : Int)) (
 .leaf false) (
 .ite (((a.Roads.n : Nat) : Int) != ((b.Roads.n : Nat) : Int)) (
 .leaf false) (
 .sum (ref01_Same_l4 a.Places a.Roads b.Places b.Roads (0 : Int)) (fun _ =>
 .sum (ref01_Same_l9 a.Places a.Roads b.Places b.Roads (0 : Int)) (fun _ =>
 .leaf true) (fun _ => .leaf false)) (fun _ => .leaf false)))
noncomputable def ref01_Same_m : FnM := flM (SMine × SMine) (Bool) (fun p => ([.agg (SMine.enc p.1), .agg (SMine.enc p.2)], [])) (fun p => ref01_Same_t p.1 p.2) (fun r => .bool r) (fun _ => rfl)
noncomputable def ref01_Same_env : Env := envM [] [(4, [2, 3, 5], [2, 3, 4]), (9, [2, 3, 6], [4])] [(4, ref01_Same_l4_m.c), (9, ref01_Same_l9_m.c)] [] [(4, [0, 64]), (9, [0, 64])] 0
noncomputable def ref01_Same_e : Env := { ref01_Same_env with nt := 59 }
theorem ref01_Same_l4_tells : LoopTells ref01_Same_e (loopOf 4 Try.f21) ref01_Same_l4_m.c := ref01_Same_l4_m.tells 1344 (fun _ => by kernel_rfl) (fun _ _ _ _ => by kernel_rfl) (fun _ _ _ _ => by kernel_rfl) fun R f v N K => by kernel_rfl
theorem ref01_Same_l9_tells : LoopTells ref01_Same_e (loopOf 9 Try.f21) ref01_Same_l9_m.c := ref01_Same_l9_m.tells 1408 (fun _ => by kernel_rfl) (fun _ _ _ _ => by kernel_rfl) (fun _ _ _ _ => by kernel_rfl) fun R f v N K => by kernel_rfl
theorem ref01_Same_tells : Tells Try.prog 21 ref01_Same_m.c := ref01_Same_m.tells Try.func21 (show ∀ p, arun ref01_Same_env Try.f21 (ref01_Same_m.enc p).1 (ref01_Same_m.enc p).2 = _ from fun p => by kernel_rfl) (loopsL [loopOf 4 Try.f21, loopOf 9 Try.f21] (by kernel_rfl) ⟨lpT (by kernel_rfl) ref01_Same_l4_tells, ⟨lpT (by kernel_rfl) ref01_Same_l9_tells, trivial⟩⟩) .nil
noncomputable def ref01_Same (a b : SMine) : Option (Bool) := ref01_Same_m.val (a, b)
theorem ref01_Same_eq (a b : SMine) : ref01_Same a b = (ref01_Same_t a b).get := ref01_Same_m.val_eq (fun x => (SMine.dec (aggL (gd x.1 0)), SMine.dec (aggL (gd x.1 1)))) (fun p => by kernel_rfl) (a, b)
end Go.Proofs.Ythkdmemkjojmoaa.Ab
