/- Mirrors of code, stage 12. -/
import Derived.Test.YtmfiagdelnddkaaGreatXc
namespace Go.Proofs.YtmfiagdelnddkaaGreat.Ab
noncomputable section
open Go
attribute [local irreducible] arun
def lT (u2_0 : Sq Int) (u2_1 : Int) : DT (LR (Int) (Unit) (Unit)) :=
 .ite (decide (u2_1 < ((u2_0.n : Nat) : Int))) (
 .ite (decide ((0 : Int) ≤ u2_1 ∧ u2_1 < ((u2_0.n : Nat) : Int))) (
 .ite (decide ((u2_0.f (Int.toNat u2_1)) < (-70368744177664 : Int))) (
 .leaf (.r ())) (
 .ite (decide ((0 : Int) ≤ u2_1 ∧ u2_1 < ((u2_0.n : Nat) : Int))) (
 .ite (decide ((u2_0.f (Int.toNat u2_1)) > (70368744177664 : Int))) (
 .leaf (.r ())) (
 .leaf (.next (wr (u2_1 + (1 : Int)))))) (
 .fail))) (
 .fail)) (
 .leaf (.l ()))
def qO : LpM := ⟨(Sq Int), Int, Unit, Unit, fun p => ⟨[(0, sqA 1 (eI .i64) p.1), (3, .int .i64 p.2)], [], 128⟩, fun f v => lT f v, false, (.exit 0), (fun _ _ => ⟨[(2, .undef)], [], 128⟩), .ret, (fun _ _ => ⟨[(2, .bool false)], [], 128⟩), c1, c1k⟩
def Eb (u2_0 : Sq Int) (u2_1 : Int) : Option ((Unit) ⊕ (Unit)) := qO.val (u2_0, u2_1)
theorem TF (u2_0 : Sq Int) (u2_1 : Int) : Eb u2_0 u2_1 = fixO (fun v : Int => lT u2_0 v) u2_1 := qO.val_eq (fun x => (sqD dI (aget x.tm 0), intA (aget x.tm 3))) (fun p => by kernel_rfl) (u2_0, u2_1)
def Gt (l : Sq Int) : DT (Bool) :=
 .sum (Eb l (0 : Int)) (fun _ =>
 .leaf true) (fun _ => .leaf false)
def qj : FnM := flM ((Sq Int)) (Bool) (fun p => ([sqA 1 (eI .i64) p], [])) (fun p => Gt p) (fun r => .bool r) (fun _ => rfl)
def KM : Env := envM [] [(2, [0, 3], [2])] [(2, qO.c)] [] [(2, [])] 0
def aar : Env := { KM with nt := 22 }
theorem Nj : aG aar (aH 2 Tryz.f77) qO.c := qO.tells 128 (fun _ => by kernel_rfl) (fun _ _ _ _ => by kernel_rfl) (fun _ _ _ _ => by kernel_rfl) fun R f v N K => by kernel_rfl
theorem TG : aN Tryz.prog 77 qj.c := qj.tells Tryz.func77 (show ∀ p, arun KM Tryz.f77 (qj.enc p).1 (qj.enc p).2 = _ from fun p => by kernel_rfl) (bf [aH 2 Tryz.f77] (by kernel_rfl) ⟨lpT (by kernel_rfl) Nj, trivial⟩) .nil
def Ni (l : Sq Int) : Option (Bool) := qj.val l
theorem Y9 (l : Sq Int) : Ni l = (Gt l).get := qj.val_eq (fun x => sqD dI (gd x.1 0)) (fun p => by kernel_rfl) l
def vC (_u6_0 : Sq ay) (u6_1 : Sq aB) (u6_2 : Sq Bool) (u6_3 : Bool) (u6_4 : Int) : DT (LR ((Sq Bool) × Bool × Int) (Bool × (Sq Bool)) (Unit)) :=
 .ite (decide (u6_4 < ((u6_1.n : Nat) : Int))) (
 .ite (decide ((0 : Int) ≤ u6_4 ∧ u6_4 < ((u6_1.n : Nat) : Int))) (
 .ite (!(u6_1.f (Int.toNat u6_4)).Closed) (
 .ite (decide ((0 : Int) ≤ (u6_1.f (Int.toNat u6_4)).From ∧ (u6_1.f (Int.toNat u6_4)).From < ((u6_2.n : Nat) : Int))) (
 .ite (decide ((0 : Int) ≤ (u6_1.f (Int.toNat u6_4)).To ∧ (u6_1.f (Int.toNat u6_4)).To < ((u6_2.n : Nat) : Int))) (
 .ite (!((u6_2.f (Int.toNat (u6_1.f (Int.toNat u6_4)).From)) == (u6_2.f (Int.toNat (u6_1.f (Int.toNat u6_4)).To)))) (
 .ite (decide ((0 : Int) ≤ (u6_1.f (Int.toNat u6_4)).From ∧ (u6_1.f (Int.toNat u6_4)).From < ((u6_2.n : Nat) : Int))) (
 .ite (decide ((0 : Int) ≤ (u6_1.f (Int.toNat u6_4)).To ∧ (u6_1.f (Int.toNat u6_4)).To < ((u6_2.n : Nat) : Int))) (
 .leaf (.next ((Sq.mk u6_2.n (fun k0 => (cond (Nat.beq k0 (Int.toNat (u6_1.f (Int.toNat u6_4)).To)) true (cond (Nat.beq k0 (Int.toNat (u6_1.f (Int.toNat u6_4)).From)) true (u6_2.f k0))))), true, (wr (u6_4 + (1 : Int)))))) (
 .fail)) (
 .fail)) (
 .leaf (.next (u6_2, u6_3, (wr (u6_4 + (1 : Int))))))) (
 .fail)) (
 .fail)) (
 .leaf (.next (u6_2, u6_3, (wr (u6_4 + (1 : Int))))))) (
 .fail)) (
 .leaf (.l (u6_3, u6_2)))
def wo : LpM := ⟨(Sq ay) × (Sq aB), (Sq Bool) × Bool × Int, Bool × (Sq Bool), Unit, fun p => ⟨[(2, .ptr 0 0), (5, .own 192 0), (6, .bool p.2.2.1), (7, .int .i64 p.2.2.2)], [(0, .var [sqA 2 ay.enc p.1.1, sqA 10 aB.enc p.1.2]), (192, rowA 0 1 4 eO p.2.1)], 576⟩, fun f v => vC f.1 f.2 v.1 v.2.1 v.2.2, true, (.exit 2), (fun x a => ⟨[(2, .ptr 0 0), (5, .own 192 0), (6, .bool a.1)], [(0, blkS x 0), (192, rowA 0 1 4 eO a.2)], 576⟩), .ret, (fun _ _ => ⟨[], [], 0⟩), c1, c1k⟩
def Ju (u6_0 : Sq ay) (u6_1 : Sq aB) (u6_2 : Sq Bool) (u6_3 : Bool) (u6_4 : Int) : Option ((Bool × (Sq Bool)) ⊕ (Unit)) := wo.val ((u6_0, u6_1), (u6_2, u6_3, u6_4))
theorem Xk (u6_0 : Sq ay) (u6_1 : Sq aB) (u6_2 : Sq Bool) (u6_3 : Bool) (u6_4 : Int) : Ju u6_0 u6_1 u6_2 u6_3 u6_4 = fixO (fun v : (Sq Bool) × Bool × Int => vC u6_0 u6_1 v.1 v.2.1 v.2.2) (u6_2, u6_3, u6_4) := wo.val_eq (fun x => ((sqD ay.dec (cellS x 0 0), sqD aB.dec (cellS x 0 1)), (sqB dO (blkS x 192), iR (aget x.tm 6), intA (aget x.tm 7)))) (fun p => by kernel_rfl) ((u6_0, u6_1), (u6_2, u6_3, u6_4))
def vB (u3_0 : Sq ay) (u3_1 : Sq aB) (u3_2 : Sq Bool) (u3_3 : Bool) : DT (LR ((Sq Bool) × Bool) ((Sq Bool)) (Unit)) :=
 .ite u3_3 (
 .sum (Ju u3_0 u3_1 u3_2 false (0 : Int)) (fun y0 =>
 .leaf (.next (y0.2, y0.1))) (fun _ => .fail)) (
 .leaf (.l u3_2))
def wm : LpM := ⟨(Sq ay) × (Sq aB), (Sq Bool) × Bool, (Sq Bool), Unit, fun p => ⟨[(2, .ptr 0 0), (5, .own 192 0), (6, .bool p.2.2)], [(0, .var [sqA 2 ay.enc p.1.1, sqA 10 aB.enc p.1.2]), (192, rowA 0 1 4 eO p.2.1)], 384⟩, fun f v => vB f.1 f.2 v.1 v.2, true, (.exit 0), (fun x a => ⟨[(5, .own 192 0)], [(0, blkS x 0), (192, rowA 0 1 4 eO a)], 384⟩), .ret, (fun _ _ => ⟨[], [], 0⟩), c1, c1k⟩
def Te (u3_0 : Sq ay) (u3_1 : Sq aB) (u3_2 : Sq Bool) (u3_3 : Bool) : Option (((Sq Bool)) ⊕ (Unit)) := wm.val ((u3_0, u3_1), (u3_2, u3_3))
theorem Xj (u3_0 : Sq ay) (u3_1 : Sq aB) (u3_2 : Sq Bool) (u3_3 : Bool) : Te u3_0 u3_1 u3_2 u3_3 = fixO (fun v : (Sq Bool) × Bool => vB u3_0 u3_1 v.1 v.2) (u3_2, u3_3) := wm.val_eq (fun x => ((sqD ay.dec (cellS x 0 0), sqD aB.dec (cellS x 0 1)), (sqB dO (blkS x 192), iR (aget x.tm 6)))) (fun p => by kernel_rfl) ((u3_0, u3_1), (u3_2, u3_3))
def MP (m : aL) (seen : Sq Bool) : DT ((Sq Bool)) :=
 .ite (decide (seen.n * 1 ≤ 140737488355328 ∧ seen.n ≤ 1099511627776)) (
 .sum (Te m.Places m.Roads seen true) (fun y1 =>
 .leaf y1) (fun _ => .fail)) (
 .fail)
def wu : FnM := nfM (aL × (Sq Bool)) ((Sq Bool)) (fun p => ([.agg (aL.enc p.1), sqA 1 eO p.2], [])) (fun p => MP p.1 p.2) (fun _ => .own 0 0) (fun _ r => [rowA 0 1 4 eO r])
def PV : Env := envM [] [(6, [2, 5, 6, 7], [2, 5, 6]), (3, [2, 5, 6], [5])] [(6, wo.c), (3, wm.c)] [] [(6, [0, 192]), (3, [0, 192])] 0
def V5 : Env := { PV with nt := 49 }
theorem Q9 : aG V5 (aH 6 Tryz.f43) wo.c := wo.tells 576 (fun _ => by kernel_rfl) (fun _ _ _ _ => by kernel_rfl) (fun _ _ _ _ => by kernel_rfl) fun R f v N K => by kernel_rfl
theorem Q8 : aG V5 (aH 3 Tryz.f43) wm.c := wm.tells 384 (fun _ => by kernel_rfl) (fun _ _ _ _ => by kernel_rfl) (fun _ _ _ _ => by kernel_rfl) fun R f v N K => by kernel_rfl
theorem Xl : aN Tryz.prog 43 wu.c := wu.tells Tryz.func43 (show ∀ p, arun PV Tryz.f43 (wu.enc p).1 (wu.enc p).2 = _ from fun p => by kernel_rfl) (bf [aH 3 Tryz.f43, aH 6 Tryz.f43] (by kernel_rfl) ⟨lpT (by kernel_rfl) Q8, ⟨lpT (by kernel_rfl) Q9, trivial⟩⟩) .nil
def U9 (m : aL) (seen : Sq Bool) : Option ((Sq Bool)) := wu.val (m, seen)
theorem abX (m : aL) (seen : Sq Bool) : U9 m seen = (MP m seen).get := wu.val_eq (fun x => (aL.dec (aggL (gd x.1 0)), sqD dO (gd x.1 1))) (fun p => by kernel_rfl) (m, seen)
def vw (u3_0 : Sq ay) (_u3_1 : Sq aB) (u3_2 : Sq Bool) (u3_3 : Int) : DT (LR ((Sq Bool) × Int) ((Sq Bool)) (Unit)) :=
 .ite (decide (u3_3 < ((u3_0.n : Nat) : Int))) (
 .ite (decide ((0 : Int) ≤ u3_3 ∧ u3_3 < ((u3_0.n : Nat) : Int))) (
 .ite (decide ((0 : Int) ≤ u3_3 ∧ u3_3 < ((u3_2.n : Nat) : Int))) (
 .leaf (.next ((Sq.mk u3_2.n (fun k0 => (cond (Nat.beq k0 (Int.toNat u3_3)) (u3_0.f (Int.toNat u3_3)).Surface (u3_2.f k0)))), (wr (u3_3 + (1 : Int)))))) (
 .fail)) (
 .fail)) (
 .leaf (.l u3_2))
def vZ : LpM := ⟨(Sq ay) × (Sq aB), (Sq Bool) × Int, (Sq Bool), Unit, fun p => ⟨[(1, .ptr 0 0), (3, .own 320 0), (4, .int .i64 p.2.2)], [(0, .var [sqA 2 ay.enc p.1.1, sqA 10 aB.enc p.1.2]), (320, rowA 0 1 4 eO p.2.1)], 512⟩, fun f v => vw f.1 f.2 v.1 v.2, true, (.exit 0), (fun x a => ⟨[(1, .ptr 0 0), (3, .own 320 0)], [(0, blkS x 0), (320, rowA 0 1 4 eO a)], 512⟩), .ret, (fun _ _ => ⟨[], [], 0⟩), c1, c1k⟩
def S9 (u3_0 : Sq ay) (u3_1 : Sq aB) (u3_2 : Sq Bool) (u3_3 : Int) : Option (((Sq Bool)) ⊕ (Unit)) := vZ.val ((u3_0, u3_1), (u3_2, u3_3))
theorem Xh (u3_0 : Sq ay) (u3_1 : Sq aB) (u3_2 : Sq Bool) (u3_3 : Int) : S9 u3_0 u3_1 u3_2 u3_3 = fixO (fun v : (Sq Bool) × Int => vw u3_0 u3_1 v.1 v.2) (u3_2, u3_3) := vZ.val_eq (fun x => ((sqD ay.dec (cellS x 0 0), sqD aB.dec (cellS x 0 1)), (sqB dO (blkS x 320), intA (aget x.tm 4)))) (fun p => by kernel_rfl) ((u3_0, u3_1), (u3_2, u3_3))
def ML (m : aL) : DT ((Sq Bool)) :=
 .ite (decide ((0 : Int) ≤ ((m.Places.n : Nat) : Int) ∧ ((m.Places.n : Nat) : Int) ≤ ((m.Places.n : Nat) : Int) ∧ ((m.Places.n : Nat) : Int) * ((1 : Nat) : Int) ≤ 140737488355328 ∧ ((m.Places.n : Nat) : Int) ≤ 1099511627776)) (
 .sum (S9 m.Places m.Roads (Sq.mk (Int.toNat ((m.Places.n : Nat) : Int)) (fun _ => false)) (0 : Int)) (fun y0 =>
 .bind (U9 m y0) fun z0 =>
 .leaf z0) (fun _ => .fail)) (
 .fail)
def mD : FnM := nfM (aL) ((Sq Bool)) (fun p => ([.agg (aL.enc p)], [])) (fun p => ML p) (fun _ => .own 0 0) (fun _ r => [rowA 0 1 4 eO r])
def PU : Env := envM [(43, wu.c)] [(3, [1, 3, 4], [1, 3])] [(3, vZ.c)] [(6, [.freeze 320])] [(3, [0, 320])] 0
def adB : Env := { PU with nt := 28 }
theorem Q6 : aG adB (aH 3 Tryz.f23) vZ.c := vZ.tells 512 (fun _ => by kernel_rfl) (fun _ _ _ _ => by kernel_rfl) (fun _ _ _ _ => by kernel_rfl) fun R f v N K => by kernel_rfl
theorem yJ : aN Tryz.prog 23 mD.c := mD.tells Tryz.func23 (show ∀ p, arun PU Tryz.f23 (mD.enc p).1 (mD.enc p).2 = _ from fun p => by kernel_rfl) (bf [aH 3 Tryz.f23] (by kernel_rfl) ⟨lpT (by kernel_rfl) Q6, trivial⟩) (.cons Xl .nil)
def C8 (m : aL) : Option ((Sq Bool)) := mD.val m
theorem abV (m : aL) : C8 m = (ML m).get := mD.val_eq (fun x => aL.dec (aggL (gd x.1 0))) (fun p => by kernel_rfl) m
def tq (u3_0 : Sq ay) (_u3_1 : Sq aB) (u3_2 : Sq Bool) (u3_3 : Int) : DT (LR ((Sq Bool) × Int) ((Sq Bool)) (Unit)) :=
 .ite (decide (u3_3 < ((u3_2.n : Nat) : Int))) (
 .ite (decide ((0 : Int) ≤ u3_3 ∧ u3_3 < ((u3_2.n : Nat) : Int))) (
 .ite (!(u3_2.f (Int.toNat u3_3))) (
 .ite (decide ((0 : Int) ≤ u3_3 ∧ u3_3 < ((u3_2.n : Nat) : Int))) (
 .leaf (.next ((Sq.mk u3_2.n (fun k0 => (cond (Nat.beq k0 (Int.toNat u3_3)) true (u3_2.f k0)))), (wr (u3_3 + (1 : Int)))))) (
 .fail)) (
 .ite (decide ((0 : Int) ≤ u3_3 ∧ u3_3 < ((u3_0.n : Nat) : Int))) (
 .ite (decide ((0 : Int) ≤ u3_3 ∧ u3_3 < ((u3_2.n : Nat) : Int))) (
 .leaf (.next ((Sq.mk u3_2.n (fun k1 => (cond (Nat.beq k1 (Int.toNat u3_3)) (u3_0.f (Int.toNat u3_3)).Surface (u3_2.f k1)))), (wr (u3_3 + (1 : Int)))))) (
 .fail)) (
 .fail))) (
 .fail)) (
 .leaf (.l u3_2))
def uE : LpM := ⟨(Sq ay) × (Sq aB), (Sq Bool) × Int, (Sq Bool), Unit, fun p => ⟨[(1, .ptr 0 0), (3, .own 192 0), (4, .int .i64 p.2.2)], [(0, .var [sqA 2 ay.enc p.1.1, sqA 10 aB.enc p.1.2]), (192, rowA 0 1 4 eO p.2.1)], 384⟩, fun f v => tq f.1 f.2 v.1 v.2, true, (.exit 0), (fun x a => ⟨[(3, .own 192 0)], [(0, blkS x 0), (192, rowA 0 1 4 eO a)], 384⟩), .ret, (fun _ _ => ⟨[], [], 0⟩), c1, c1k⟩
def P6 (u3_0 : Sq ay) (u3_1 : Sq aB) (u3_2 : Sq Bool) (u3_3 : Int) : Option (((Sq Bool)) ⊕ (Unit)) := uE.val ((u3_0, u3_1), (u3_2, u3_3))
theorem Vq (u3_0 : Sq ay) (u3_1 : Sq aB) (u3_2 : Sq Bool) (u3_3 : Int) : P6 u3_0 u3_1 u3_2 u3_3 = fixO (fun v : (Sq Bool) × Int => tq u3_0 u3_1 v.1 v.2) (u3_2, u3_3) := uE.val_eq (fun x => ((sqD ay.dec (cellS x 0 0), sqD aB.dec (cellS x 0 1)), (sqB dO (blkS x 192), intA (aget x.tm 4)))) (fun p => by kernel_rfl) ((u3_0, u3_1), (u3_2, u3_3))
def JQ (m : aL) : DT ((Sq Bool)) :=
 .bind (C8 m) fun z0 =>
 .sum (P6 m.Places m.Roads z0 (0 : Int)) (fun y0 =>
 .leaf y0) (fun _ => .fail)
def l8 : FnM := nfM (aL) ((Sq Bool)) (fun p => ([.agg (aL.enc p)], [])) (fun p => JQ p) (fun _ => .own 0 0) (fun _ r => [rowA 0 1 4 eO r])
def Nh : Env := envM [(23, mD.c)] [(3, [1, 3, 4], [3])] [(3, uE.c)] [] [(3, [0, 192])] 0
def ab9 : Env := { Nh with nt := 30 }
theorem O6 : aG ab9 (aH 3 Tryz.f57) uE.c := uE.tells 384 (fun _ => by kernel_rfl) (fun _ _ _ _ => by kernel_rfl) (fun _ _ _ _ => by kernel_rfl) fun R f v N K => by kernel_rfl
theorem Ba : aN Tryz.prog 57 l8.c := l8.tells Tryz.func57 (show ∀ p, arun Nh Tryz.f57 (l8.enc p).1 (l8.enc p).2 = _ from fun p => by kernel_rfl) (bf [aH 3 Tryz.f57] (by kernel_rfl) ⟨lpT (by kernel_rfl) O6, trivial⟩) (.cons yJ .nil)
def Ea (m : aL) : Option ((Sq Bool)) := l8.val m
theorem aaq (m : aL) : Ea m = (JQ m).get := l8.val_eq (fun x => aL.dec (aggL (gd x.1 0))) (fun p => by kernel_rfl) m
def zK (pressure : Int) : DT (Bool) :=
 .ite (decide (pressure < (-70368744177664 : Int))) (.leaf true) (.leaf (decide (pressure > (70368744177664 : Int))))
def je : FnM := flM (Int) (Bool) (fun p => ([.int .i64 p], [])) (fun p => zK p) (fun r => .bool r) (fun _ => rfl)
def OL : Env := envM [] [] [] [] [] 0
theorem K4 : aN Tryz.prog 41 je.c := je.tells Tryz.func41 (show ∀ p, arun OL Tryz.f41 (je.enc p).1 (je.enc p).2 = _ from fun p => by kernel_rfl) aP .nil
def BO (pressure : Int) : Option (Bool) := je.val pressure
theorem QA (pressure : Int) : BO pressure = (zK pressure).get := je.val_eq (fun x => intA (gd x.1 0)) (fun p => by kernel_rfl) pressure
def iO (u2_0 : Sq Int) (u2_2 : Int) : DT (LR (Int) (Unit) (Int)) :=
 .ite (decide (u2_2 < ((u2_0.n : Nat) : Int))) (
 .ite (decide ((0 : Int) ≤ u2_2 ∧ u2_2 < ((u2_0.n : Nat) : Int))) (
 .bind (BO (u2_0.f (Int.toNat u2_2))) fun z0 =>
 .ite z0 (
 .leaf (.r u2_2)) (
 .leaf (.next (wr (u2_2 + (1 : Int)))))) (
 .fail)) (
 .leaf (.l ()))
def gU : LpM := ⟨(Sq Int), Int, Unit, Int, fun p => ⟨[(0, sqA 1 (eI .i64) p.1), (1, .fn 41 []), (7, .int .i64 ((p.1.n : Nat) : Int)), (8, .int .i64 p.2)], [], 256⟩, fun f v => iO f v, false, (.exit 0), (fun _ _ => ⟨[(4, .undef)], [], 256⟩), .ret, (fun _ a => ⟨[(4, .int .i64 a)], [], 256⟩), c1, c1k⟩
def zZ (u2_0 : Sq Int) (u2_2 : Int) : Option ((Unit) ⊕ (Int)) := gU.val (u2_0, u2_2)
theorem xB (u2_0 : Sq Int) (u2_2 : Int) : zZ u2_0 u2_2 = fixO (fun v : Int => iO u2_0 v) u2_2 := gU.val_eq (fun x => (sqD dI (aget x.tm 0), intA (aget x.tm 8))) (fun p => by kernel_rfl) (u2_0, u2_2)
def nX (s : Sq Int) : DT (Int) :=
 .sum (zZ s (0 : Int)) (fun _ =>
 .leaf (-1 : Int)) (fun y0 => .leaf y0)
def eX : FnM := flM ((Sq Int)) (Int) (fun p => ([sqA 1 (eI .i64) p, .fn 41 []], [])) (fun p => nX p) (fun r => .int .i64 r) (fun _ => rfl)
def zx : Env := envM [(41, je.c)] [(2, [0, 1, 7, 8], [4])] [(2, gU.c)] [] [(2, [])] 0
def Le : Env := { zx with nt := 19 }
theorem Ce : aG Le (aH 2 Tryz.f65) gU.c := gU.tells 256 (fun _ => by kernel_rfl) (fun _ _ _ _ => by kernel_rfl) (fun _ _ _ _ => by kernel_rfl) fun R f v N K => by kernel_rfl
theorem EX : aN Tryz.prog 65 eX.c := eX.tells Tryz.func65 (show ∀ p, arun zx Tryz.f65 (eX.enc p).1 (eX.enc p).2 = _ from fun p => by kernel_rfl) (bf [aH 2 Tryz.f65] (by kernel_rfl) ⟨lpT (by kernel_rfl) Ce, trivial⟩) (.cons K4 .nil)
def xY (s : Sq Int) : Option (Int) := eX.val s
theorem zY (s : Sq Int) : xY s = (nX s).get := eX.val_eq (fun x => sqD dI (gd x.1 0)) (fun p => by kernel_rfl) s
def qw (s : Sq Int) : DT (Bool) :=
 .bind (xY s) fun z0 =>
 .leaf (decide (z0 ≥ (0 : Int)))
def bP : FnM := flM ((Sq Int)) (Bool) (fun p => ([sqA 1 (eI .i64) p, .fn 41 []], [])) (fun p => qw p) (fun r => .bool r) (fun _ => rfl)
def Ew : Env := envM [(65, eX.c)] [] [] [] [] 0
theorem Cb : aN Tryz.prog 40 bP.c := bP.tells Tryz.func40 (show ∀ p, arun Ew Tryz.f40 (bP.enc p).1 (bP.enc p).2 = _ from fun p => by kernel_rfl) aP (.cons EX .nil)
def mg (s : Sq Int) : Option (Bool) := bP.val s
theorem ET (s : Sq Int) : mg s = (qw s).get := bP.val_eq (fun x => sqD dI (gd x.1 0)) (fun p => by kernel_rfl) s
def jB (u3_0 : Sq ay) (u3_2 : Sq aB) (u3_3 : Sq SFan) (u3_4 : Sq aC) (u3_5 u3_6 u3_7 u3_8 u3_9 : Sq Int) (u3_10 : Int) : DT (LR (Int) (Unit) (Unit)) :=
 .ite (decide (u3_10 < ((u3_0.n : Nat) : Int))) (
 .ite (decide ((0 : Int) ≤ u3_10 ∧ u3_10 < ((u3_0.n : Nat) : Int))) (
 .ite (u3_0.f (Int.toNat u3_10)).Surface (
 .ite (decide ((0 : Int) ≤ u3_10 ∧ u3_10 < ((u3_7.n : Nat) : Int))) (
 .ite ((u3_7.f (Int.toNat u3_10)) != (0 : Int)) (
 .leaf (.r ())) (
 .ite (decide ((0 : Int) ≤ u3_10 ∧ u3_10 < ((u3_8.n : Nat) : Int))) (
 .ite ((u3_8.f (Int.toNat u3_10)) != (0 : Int)) (
 .leaf (.r ())) (
 .leaf (.next (wr (u3_10 + (1 : Int)))))) (
 .fail))) (
 .fail)) (
 .bind (slices_Contains u3_9 u3_10) fun z0 =>
 .ite z0 (
 .ite (decide ((0 : Int) ≤ u3_10 ∧ u3_10 < ((u3_7.n : Nat) : Int))) (
 .ite ((u3_7.f (Int.toNat u3_10)) != (0 : Int)) (
 .leaf (.r ())) (
 .ite (decide ((0 : Int) ≤ u3_10 ∧ u3_10 < ((u3_8.n : Nat) : Int))) (
 .ite ((u3_8.f (Int.toNat u3_10)) != (0 : Int)) (
 .leaf (.r ())) (
 .leaf (.next (wr (u3_10 + (1 : Int)))))) (
 .fail))) (
 .fail)) (
 .bind (Dj (SAir.mk (aL.mk u3_0 u3_2) u3_3 u3_4) (au.mk u3_5 u3_6) u3_8 u3_10) fun z1 =>
 .ite (decide (z1.Low < (0 : Int))) (
 .leaf (.r ())) (
 .bind (Dj (SAir.mk (aL.mk u3_0 u3_2) u3_3 u3_4) (au.mk u3_5 u3_6) u3_7 u3_10) fun z2 =>
 .ite (decide (z2.High > (0 : Int))) (
 .leaf (.r ())) (
 .leaf (.next (wr (u3_10 + (1 : Int))))))))) (
 .fail)) (
 .leaf (.l ()))
def mV : LpM := ⟨(Sq ay) × (Sq aB) × (Sq SFan) × (Sq aC) × (Sq Int) × (Sq Int) × (Sq Int) × (Sq Int) × (Sq Int), Int, Unit, Unit, fun p => ⟨[(3, .ptr 0 0), (4, .ptr 64 0), (5, .ptr 128 0), (7, .own 384 0), (15, sqA 2 ay.enc p.1.1), (16, .int .i64 ((p.1.1.n : Nat) : Int)), (17, .int .i64 p.2)], [(0, .var [sqA 2 ay.enc p.1.1, sqA 10 aB.enc p.1.2.1, sqA 4 SFan.enc p.1.2.2.1, sqA 3 aC.enc p.1.2.2.2.1]), (64, .var [sqA 1 (eI .i64) p.1.2.2.2.2.1, sqA 1 (eI .i64) p.1.2.2.2.2.2.1]), (128, .var [sqA 1 (eI .i64) p.1.2.2.2.2.2.2.1, sqA 1 (eI .i64) p.1.2.2.2.2.2.2.2.1]), (384, rowA 0 1 3 (eI .i64) p.1.2.2.2.2.2.2.2.2)], 832⟩, fun f v => jB f.1 f.2.1 f.2.2.1 f.2.2.2.1 f.2.2.2.2.1 f.2.2.2.2.2.1 f.2.2.2.2.2.2.1 f.2.2.2.2.2.2.2.1 f.2.2.2.2.2.2.2.2 v, false, (.exit 0), (fun x _ => ⟨[(6, .undef)], [(0, blkS x 0), (64, blkS x 64), (128, blkS x 128), (384, blkS x 384)], 832⟩), .ret, (fun x _ => ⟨[(6, .bool false)], [(0, blkS x 0), (64, blkS x 64), (128, blkS x 128), (384, blkS x 384)], 832⟩), c1, c1k⟩
def AL (u3_0 : Sq ay) (u3_2 : Sq aB) (u3_3 : Sq SFan) (u3_4 : Sq aC) (u3_5 u3_6 u3_7 u3_8 u3_9 : Sq Int) (u3_10 : Int) : Option ((Unit) ⊕ (Unit)) := mV.val ((u3_0, u3_2, u3_3, u3_4, u3_5, u3_6, u3_7, u3_8, u3_9), u3_10)
theorem OI (u3_0 : Sq ay) (u3_2 : Sq aB) (u3_3 : Sq SFan) (u3_4 : Sq aC) (u3_5 u3_6 u3_7 u3_8 u3_9 : Sq Int) (u3_10 : Int) : AL u3_0 u3_2 u3_3 u3_4 u3_5 u3_6 u3_7 u3_8 u3_9 u3_10 = fixO (fun v : Int => jB u3_0 u3_2 u3_3 u3_4 u3_5 u3_6 u3_7 u3_8 u3_9 v) u3_10 := mV.val_eq (fun x => ((sqD ay.dec (aget x.tm 15), sqD aB.dec (cellS x 0 1), sqD SFan.dec (cellS x 0 2), sqD aC.dec (cellS x 0 3), sqD dI (cellS x 64 0), sqD dI (cellS x 64 1), sqD dI (cellS x 128 0), sqD dI (cellS x 128 1), sqB dI (blkS x 384)), intA (aget x.tm 17))) (fun p => by kernel_rfl) ((u3_0, u3_2, u3_3, u3_4, u3_5, u3_6, u3_7, u3_8, u3_9), u3_10)
def BN (a : SAir) (s : au) (b : bM) : DT (Bool) :=
 .bind (DU a.Mine) fun z3 =>
 .sum (AL a.Mine.Places a.Mine.Roads a.Fans a.Doors s.Fans s.Doors b.Low b.High z3 (0 : Int)) (fun _ =>
 .leaf true) (fun _ => .leaf false)
def kW : FnM := flM (SAir × au × bM) (Bool) (fun p => ([.agg (SAir.enc p.1), .agg (au.enc p.2.1), .agg (bM.enc p.2.2)], [])) (fun p => BN p.1 p.2.1 p.2.2) (fun r => .bool r) (fun _ => rfl)
def Fh : Env := envM [(66, oP.c), (67, fK.c), (24, oI.c)] [(3, [3, 4, 5, 7, 15, 16, 17], [6])] [(3, mV.c)] [] [(3, [0, 64, 128, 384])] 0
def WJ : Env := { Fh with nt := 62 }
theorem IZ : aG WJ (aH 3 Tryz.f42) mV.c := mV.tells 832 (fun _ => by kernel_rfl) (fun _ _ _ _ => by kernel_rfl) (fun _ _ _ _ => by kernel_rfl) fun R f v N K => by kernel_rfl
theorem OJ : aN Tryz.prog 42 kW.c := kW.tells Tryz.func42 (show ∀ p, arun Fh Tryz.f42 (kW.enc p).1 (kW.enc p).2 = _ from fun p => by kernel_rfl) (bf [aH 3 Tryz.f42] (by kernel_rfl) ⟨lpT (by kernel_rfl) IZ, trivial⟩) (.cons Ht (.cons wO (.cons GU .nil)))
def FZ (a : SAir) (s : au) (b : bM) : Option (Bool) := kW.val (a, s, b)
theorem UA (a : SAir) (s : au) (b : bM) : FZ a s b = (BN a s b).get := kW.val_eq (fun x => (SAir.dec (aggL (gd x.1 0)), au.dec (aggL (gd x.1 1)), bM.dec (aggL (gd x.1 2)))) (fun p => by kernel_rfl) (a, s, b)
def Dy (a : SAir) (s : au) (b : bM) : DT (Int) :=
 .bind (Fa a) fun z0 =>
 .ite (z0 != (0 : Int)) (
 .leaf z0) (
 .bind (Br a s) fun z1 =>
 .ite (!z1) (
 .leaf (21 : Int)) (
 .ite (((b.Low.n : Nat) : Int) != ((a.Mine.Places.n : Nat) : Int)) (
 .leaf (11 : Int)) (
 .ite (((b.High.n : Nat) : Int) != ((a.Mine.Places.n : Nat) : Int)) (
 .leaf (11 : Int)) (
 .bind (mg b.Low) fun z2 =>
 .ite z2 (
 .leaf (1 : Int)) (
 .bind (mg b.High) fun z3 =>
 .ite z3 (
 .leaf (1 : Int)) (
 .bind (FZ a s b) fun z4 =>
 .ite (!z4) (.leaf (12 : Int)) (.leaf (0 : Int))))))))
def kr : FnM := flM (SAir × au × bM) (Int) (fun p => ([.agg (SAir.enc p.1), .agg (au.enc p.2.1), .agg (bM.enc p.2.2)], [])) (fun p => Dy p.1 p.2.1 p.2.2) (fun r => .int .i64 r) (fun _ => rfl)
def Uz : Env := envM [(38, mq.c), (39, jX.c), (40, bP.c), (42, kW.c)] [] [] [] [] 0
theorem Dz : aN Tryz.prog 22 kr.c := kr.tells Tryz.func22 (show ∀ p, arun Uz Tryz.f22 (kr.enc p).1 (kr.enc p).2 = _ from fun p => by kernel_rfl) aP (.cons Fb (.cons zF (.cons Cb (.cons OJ .nil))))
def CB (a : SAir) (s : au) (b : bM) : Option (Int) := kr.val (a, s, b)
theorem WI (a : SAir) (s : au) (b : bM) : CB a s b = (Dy a s b).get := kr.val_eq (fun x => (SAir.dec (aggL (gd x.1 0)), au.dec (aggL (gd x.1 1)), bM.dec (aggL (gd x.1 2)))) (fun p => by kernel_rfl) (a, s, b)
end
end Go.Proofs.YtmfiagdelnddkaaGreat.Ab
