/- Mirrors of code, stage 12. -/
import Derived.Test.YtmfiagdelnddkaaGreatXkv
import Derived.Test.YtmfiagdelnddkaaGreatXks
namespace Go.Proofs.YtmfiagdelnddkaaGreat.Ab
noncomputable section
open Go
attribute [local irreducible] arun
def sI (a : SAir) (s : au) (l codes : Sq Int) : DT (Bool) :=
 .ite (decide (((a.Mine.Places.n : Nat) : Int) > (8 : Int))) (
 .bind (fB) fun z0 =>
 .leaf z0) (
 .ite (decide (((a.Mine.Roads.n : Nat) : Int) > (8 : Int))) (
 .bind (fB) fun z1 =>
 .leaf z1) (
 .ite (decide (((a.Fans.n : Nat) : Int) > (4 : Int))) (
 .bind (fB) fun z2 =>
 .leaf z2) (
 .ite (decide (((a.Doors.n : Nat) : Int) > (4 : Int))) (
 .bind (fB) fun z3 =>
 .leaf z3) (
 .bind (CQ a s l) fun z4 =>
 .bind (CP a s l) fun z5 =>
 .bind (New codes) fun z6 =>
 .bind (wW z6) fun z7 =>
 .bind (zT z7.1 s l) fun z8 =>
 .bind (zS z7.1 s l) fun z9 =>
 .bind (zT z7.1 z7.2.1 l) fun z10 =>
 .bind (zS z7.1 z7.2.1 l) fun z11 =>
 .ite (z4.2 == z5.2) (
 .ite (z8.2 == z9.2) (
 .ite (z10.2 == z11.2) (
 .bind (fB) fun z12 =>
 .leaf z12) (
 .leaf false)) (
 .leaf false)) (
 .leaf false)))))
def fu : FnM := flM (SAir × au × (Sq Int) × (Sq Int)) (Bool) (fun p => ([.agg (SAir.enc p.1), .agg (au.enc p.2.1), sqA 1 (eI .i64) p.2.2.1, sqA 1 (eI .u8) p.2.2.2], [])) (fun p => sI p.1 p.2.1 p.2.2.1 p.2.2.2) (fun r => .bool r) (fun _ => rfl)
def Mr : Env := envM [(18, dA.c), (13, kJ.c), (14, kH.c), (10, Uj.c), (11, iF.c), (15, kI.c), (16, kG.c)] [(2000013, [], []), (2000014, [], []), (2000015, [], []), (2000016, [], [])] [] [(6, [.freeze 3136, .freeze 3137, .freeze 3138, .freeze 3139]), (8, [.freeze 3140, .freeze 3141])] [] 0
theorem abF : aN Tryz.prog 5 fu.c := fu.tells Tryz.func5 (show ∀ p, arun Mr Tryz.f5 (fu.enc p).1 (fu.enc p).2 = _ from fun p => by kernel_rfl) aP (.cons jR (.cons En (.cons Eh (.cons Df (.cons kQ (.cons El (.cons Ed .nil)))))))
def UR (a : SAir) (s : au) (l codes : Sq Int) : Option (Bool) := fu.val (a, s, l, codes)
theorem adX (a : SAir) (s : au) (l codes : Sq Int) : UR a s l codes = (sI a s l codes).get := fu.val_eq (fun x => (SAir.dec (aggL (gd x.1 0)), au.dec (aggL (gd x.1 1)), sqD dI (gd x.1 2), sqD dI (gd x.1 3))) (fun p => by kernel_rfl) (a, s, l, codes)
theorem adn : ∀ a b, fu.enc a = fu.enc b → a = b := linj (fun x => (SAir.dec (aggL (gd x.1 0)), au.dec (aggL (gd x.1 1)), sqD dI (gd x.1 2), sqD dI (gd x.1 3))) (fun p => by kernel_rfl)
end
end Go.Proofs.YtmfiagdelnddkaaGreat.Ab
