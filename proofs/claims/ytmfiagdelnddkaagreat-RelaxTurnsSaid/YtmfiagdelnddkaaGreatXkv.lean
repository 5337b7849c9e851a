/- Mirrors of code, stage 12. -/
import Derived.Test.YtmfiagdelnddkaaGreatXkq
namespace Go.Proofs.YtmfiagdelnddkaaGreat.Ab
noncomputable section
open Go
attribute [local irreducible] arun
def Ji : DT (Bool) :=
 .bind (wJ (SAir.mk (aL.mk (Sq.mk 2 (fun k0 => (ay.mk (cond (Nat.beq k0 0) (0 : Int) (0 : Int)) (cond (Nat.beq k0 0) true false)))) (Sq.mk 1 (fun _ => (aB.mk (1 : Int) (0 : Int) (1 : Int) (1 : Int) false false (aK.mk (1 : Int) (1 : Int)) (aK.mk (-100 : Int) (-100 : Int)))))) (Sq.mk 0 (fun _ => (SFan.mk (0 : Int) false false (Sq.mk 0 (fun _ => (aM.mk (0 : Int) (0 : Int))))))) (Sq.mk 0 (fun _ => (aC.mk (0 : Int) (0 : Int) (Sq.mk 0 (fun _ => (0 : Int))))))) (au.mk (Sq.mk 0 (fun _ => (0 : Int))) (Sq.mk 0 (fun _ => (0 : Int))))) fun z0 =>
 .ite (z0.2 == (0 : Int)) (
 .bind (fJ z0.1.Low (Sq.mk 2 (fun k1 => (cond (Nat.beq k1 0) (0 : Int) (100 : Int))))) fun z1 =>
 .ite z1 (
 .bind (fJ z0.1.High (Sq.mk 2 (fun k2 => (cond (Nat.beq k2 0) (0 : Int) (100 : Int))))) fun z2 =>
 .leaf z2) (
 .leaf false)) (
 .leaf false)
def dA : FnM := flM (Unit) (Bool) (fun _ => ([], [])) (fun _ => Ji) (fun r => .bool r) (fun _ => rfl)
def YL : Env := envM [(20, j5.c), (17, kD.c)] [] [] [(8000020, [.asrow 3 73 4 (fun _ => SFan.enc (SFan.mk (0 : Int) false false (Sq.mk 0 (fun _ => (aM.mk (0 : Int) (0 : Int)))))), .asrow 4 91 3 (fun _ => aC.enc (aC.mk (0 : Int) (0 : Int) (Sq.mk 0 (fun _ => (0 : Int))))), .asrow 65 3 1 (fun _ => (eI .i64) (0 : Int)), .asrow 66 3 1 (fun _ => (eI .i64) (0 : Int))]), (2, [.freeze 192, .freeze 448])] [] 0
theorem jR : aN Tryz.prog 18 dA.c := dA.tells Tryz.func18 (show ∀ p, arun YL Tryz.f18 (dA.enc p).1 (dA.enc p).2 = _ from fun p => by kernel_rfl) aP (.cons xk (.cons ug .nil))
def fB : Option (Bool) := dA.val ()
theorem ZV : fB = (Ji).get := dA.val_eq (fun _ => ()) (fun p => by kernel_rfl) ()
theorem aho : ∀ a b, dA.enc a = dA.enc b → a = b := linj (fun _ => ()) (fun p => by kernel_rfl)
end
end Go.Proofs.YtmfiagdelnddkaaGreat.Ab
