/- Mirrors of code, stage 12. -/
import Derived.Test.YtmfiagdelnddkaaGreatXkv
namespace Go.Proofs.YtmfiagdelnddkaaGreat.Ab
noncomputable section
open Go
attribute [local irreducible] arun
def oN (codes : Sq Int) (rest lift : Int) : DT (Bool) :=
 .bind (New codes) fun z0 =>
 .bind (wW z0) fun z1 =>
 .bind (Hu z1.1.Mine) fun z2 =>
 .ite (decide ((z2.Places.n + 1) * 16 ≤ 140737488355328 ∧ (z2.Places.n + 1) ≤ 1099511627776)) (
 .ite (decide ((z2.Roads.n + 1) * 72 ≤ 140737488355328 ∧ (z2.Roads.n + 1) ≤ 1099511627776)) (
 .bind (wJ z1.1 z1.2.1) fun z3 =>
 .bind (wJ (SAir.mk (aL.mk (Sq.mk (z2.Places.n + 1) (fun k0 => (ay.mk (cond (Nat.blt k0 z2.Places.n) (z2.Places.f k0).Height (0 : Int)) (cond (Nat.blt k0 z2.Places.n) (z2.Places.f k0).Surface true)))) (Sq.mk (z2.Roads.n + 1) (fun k1 => (aB.mk (cond (Nat.blt k1 z2.Roads.n) (z2.Roads.f k1).From (0 : Int)) (cond (Nat.blt k1 z2.Roads.n) (z2.Roads.f k1).To (wr ((((z2.Places.n + 1) : Nat) : Int) - (1 : Int)))) (cond (Nat.blt k1 z2.Roads.n) (z2.Roads.f k1).Length (1 : Int)) (cond (Nat.blt k1 z2.Roads.n) (z2.Roads.f k1).Area (1 : Int)) (cond (Nat.blt k1 z2.Roads.n) (z2.Roads.f k1).Walk false) (cond (Nat.blt k1 z2.Roads.n) (z2.Roads.f k1).Closed false) (aK.mk (cond (Nat.blt k1 z2.Roads.n) (z2.Roads.f k1).Rest.Low (wr ((1 : Int) + (wr rest)))) (cond (Nat.blt k1 z2.Roads.n) (z2.Roads.f k1).Rest.High (wr ((1 : Int) + (wr rest))))) (aK.mk (cond (Nat.blt k1 z2.Roads.n) (z2.Roads.f k1).Lift.Low (wr (0 - (wr lift)))) (cond (Nat.blt k1 z2.Roads.n) (z2.Roads.f k1).Lift.High (wr lift))))))) z1.1.Fans z1.1.Doors) z1.2.1) fun z4 =>
 .ite (z3.2 != z4.2) (
 .leaf false) (
 .ite (z3.2 != (0 : Int)) (
 .bind (fB) fun z5 =>
 .leaf z5) (
 .ite (((z4.1.Low.n : Nat) : Int) == (wr (((z1.1.Mine.Places.n : Nat) : Int) + (1 : Int)))) (
 .ite (((z4.1.High.n : Nat) : Int) == (wr (((z1.1.Mine.Places.n : Nat) : Int) + (1 : Int)))) (
 .ite (decide ((0 : Int) ≤ ((z1.1.Mine.Places.n : Nat) : Int) ∧ ((z1.1.Mine.Places.n : Nat) : Int) ≤ ((z4.1.Low.n : Nat) : Int))) (
 .bind (fJ z3.1.Low (Sq.mk (Int.toNat ((z1.1.Mine.Places.n : Nat) : Int)) z4.1.Low.f)) fun z6 =>
 .ite z6 (
 .ite (decide ((0 : Int) ≤ ((z1.1.Mine.Places.n : Nat) : Int) ∧ ((z1.1.Mine.Places.n : Nat) : Int) ≤ ((z4.1.High.n : Nat) : Int))) (
 .bind (fJ z3.1.High (Sq.mk (Int.toNat ((z1.1.Mine.Places.n : Nat) : Int)) z4.1.High.f)) fun z7 =>
 .ite z7 (
 .ite (decide ((0 : Int) ≤ ((z1.1.Mine.Places.n : Nat) : Int) ∧ ((z1.1.Mine.Places.n : Nat) : Int) < ((z4.1.Low.n : Nat) : Int))) (
 .ite ((z4.1.Low.f (Int.toNat ((z1.1.Mine.Places.n : Nat) : Int))) == (0 : Int)) (
 .ite (decide ((0 : Int) ≤ ((z1.1.Mine.Places.n : Nat) : Int) ∧ ((z1.1.Mine.Places.n : Nat) : Int) < ((z4.1.High.n : Nat) : Int))) (
 .ite ((z4.1.High.f (Int.toNat ((z1.1.Mine.Places.n : Nat) : Int))) == (0 : Int)) (
 .bind (fB) fun z8 =>
 .leaf z8) (
 .leaf false)) (
 .fail)) (
 .leaf false)) (
 .fail)) (
 .leaf false)) (
 .fail)) (
 .leaf false)) (
 .fail)) (
 .leaf false)) (
 .leaf false)))) (
 .fail)) (
 .fail)
def cZ : FnM := flM ((Sq Int) × Int × Int) (Bool) (fun p => ([sqA 1 (eI .u8) p.1, .int .u16 p.2.1, .int .u16 p.2.2], [])) (fun p => oN p.1 p.2.1 p.2.2) (fun r => .bool r) (fun _ => rfl)
def Jf : Env := envM [(10, Uj.c), (11, iF.c), (26, rE.c), (20, j5.c), (18, dA.c), (17, kD.c)] [] [] [(3, [.freeze 320, .freeze 321]), (7, [.freeze 322, .freeze 323, .freeze 324, .freeze 325]), (8, [.freeze 1152, .freeze 1153]), (14, [.freeze 4544, .freeze 4545])] [] 0
theorem ZU : aN Tryz.prog 9 cZ.c := cZ.tells Tryz.func9 (show ∀ p, arun Jf Tryz.f9 (cZ.enc p).1 (cZ.enc p).2 = _ from fun p => by kernel_rfl) aP (.cons Df (.cons kQ (.cons KF (.cons xk (.cons jR (.cons ug .nil))))))
def QT (codes : Sq Int) (rest lift : Int) : Option (Bool) := cZ.val (codes, rest, lift)
theorem acG (codes : Sq Int) (rest lift : Int) : QT codes rest lift = (oN codes rest lift).get := cZ.val_eq (fun x => (sqD dI (gd x.1 0), intA (gd x.1 1), intA (gd x.1 2))) (fun p => by kernel_rfl) (codes, rest, lift)
theorem abH : ∀ a b, cZ.enc a = cZ.enc b → a = b := linj (fun x => (sqD dI (gd x.1 0), intA (gd x.1 1), intA (gd x.1 2))) (fun p => by kernel_rfl)
end
end Go.Proofs.YtmfiagdelnddkaaGreat.Ab
