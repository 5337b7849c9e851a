/- Mirrors of code, stage 11. -/
import Derived.Test.YtnoeblpanfbpjaaGreatXd
namespace Go.Proofs.YtnoeblpanfbpjaaGreat.Ab
open Go
attribute [local irreducible] arun



/-! minecontrol/minecontrollaw11.awake -/
noncomputable def law11_awake_t : DT (Bool) :=
 .bind (certify_Flows (SAir.mk (SMine.mk (Sq.mk 2 (fun k0 => (SPlace.mk (cond (Nat.beq k0 0) (0 : Int) (0 : Int)) (cond (Nat.beq k0 0) true false)))) (Sq.mk 1 (fun _ => (SRoad.mk (1 : Int) (0 : Int) (1 : Int) (1 : Int) false false (SSpan.mk (1 : Int) (1 : Int)) (SSpan.mk (-100 : Int) (-100 : Int)))))) (Sq.mk 0 (fun _ => (SFan.mk (0 : Int) false false (Sq.mk 0 (fun _ => (SPoint.mk (0 : Int) (0 : Int))))))) (Sq.mk 0 (fun _ => (SDoor.mk (0 : Int) (0 : Int) (Sq.mk 0 (fun _ => (0 : Int))))))) (SSetting.mk (Sq.mk 0 (fun _ => (0 : Int))) (Sq.mk 0 (fun _ => (0 : Int)))) (SBounds.mk (Sq.mk 2 (fun k1 => (cond (Nat.beq k1 0) (0 : Int) (100 : Int)))) (Sq.mk 2 (fun k2 => (cond (Nat.beq k2 0) (0 : Int) (100 : Int)))))) fun z0 =>
 .bind (certify_Check (SAir.mk (SMine.mk (Sq.mk 2 (fun k3 => (SPlace.mk (cond (Nat.beq k3 0) (0 : Int) (0 : Int)) (cond (Nat.beq k3 0) true false)))) (Sq.mk 1 (fun _ => (SRoad.mk (1 : Int) (0 : Int) (1 : Int) (1 : Int) false false (SSpan.mk (1 : Int) (1 : Int)) (SSpan.mk (-100 : Int) (-100 : Int)))))) (Sq.mk 0 (fun _ => (SFan.mk (0 : Int) false false (Sq.mk 0 (fun _ => (SPoint.mk (0 : Int) (0 : Int))))))) (Sq.mk 0 (fun _ => (SDoor.mk (0 : Int) (0 : Int) (Sq.mk 0 (fun _ => (0 : Int))))))) (SSetting.mk (Sq.mk 0 (fun _ => (0 : Int))) (Sq.mk 0 (fun _ => (0 : Int)))) (SBounds.mk (Sq.mk 2 (fun k4 => (cond (Nat.beq k4 0) (0 : Int) (100 : Int)))) (Sq.mk 2 (fun k5 => (cond (Nat.beq k5 0) (0 : Int) (100 : Int)))))) fun z1 =>
 .ite (z1 == (0 : Int)) (
 .bind (certify_Check (SAir.mk (SMine.mk (Sq.mk 2 (fun k6 => (SPlace.mk (cond (Nat.beq k6 0) (0 : Int) (0 : Int)) (cond (Nat.beq k6 0) true false)))) (Sq.mk 1 (fun _ => (SRoad.mk (1 : Int) (0 : Int) (1 : Int) (1 : Int) false false (SSpan.mk (1 : Int) (1 : Int)) (SSpan.mk (-100 : Int) (-100 : Int)))))) (Sq.mk 0 (fun _ => (SFan.mk (0 : Int) false false (Sq.mk 0 (fun _ => (SPoint.mk (0 : Int) (0 : Int))))))) (Sq.mk 0 (fun _ => (SDoor.mk (0 : Int) (0 : Int) (Sq.mk 0 (fun _ => (0 : Int))))))) (SSetting.mk (Sq.mk 0 (fun _ => (0 : Int))) (Sq.mk 0 (fun _ => (0 : Int)))) (SBounds.mk (Sq.mk 2 (fun k7 => (cond (Nat.beq k7 0) (0 : Int) (100 : Int)))) (Sq.mk 2 (fun k8 => (cond (Nat.beq k8 0) (0 : Int) (99 : Int)))))) fun z2 =>
 .ite (z2 == (12 : Int)) (
 .bind (ref01_Spans z0 (Sq.mk 1 (fun _ => (SSpan.mk (0 : Int) (0 : Int))))) fun z3 =>
 .leaf z3) (
 .leaf false)) (
 .leaf false)
noncomputable def law11_awake_m : FnM := flM (Unit) (Bool) (fun _ => ([], [])) (fun _ => law11_awake_t) (fun r => .bool r) (fun _ => rfl)
noncomputable def law11_awake_env : Env := envM [(15, certify_Flows_m.c), (12, certify_Check_m.c), (14, ref01_Spans_m.c)] [] [] [(3, [.asrow 770 99 4 (fun _ => SFan.enc (SFan.mk (0 : Int) false false (Sq.mk 0 (fun _ => (SPoint.mk (0 : Int) (0 : Int)))))), .asrow 771 61 3 (fun _ => SDoor.enc (SDoor.mk (0 : Int) (0 : Int) (Sq.mk 0 (fun _ => (0 : Int))))), .freeze 192, .freeze 448, .freeze 770, .freeze 771]), (8000015, [.asrow 65 3 1 (fun _ => (eI .i64) (0 : Int)), .asrow 66 3 1 (fun _ => (eI .i64) (0 : Int))]), (8000012, [.asrow 65 3 1 (fun _ => (eI .i64) (0 : Int)), .asrow 66 3 1 (fun _ => (eI .i64) (0 : Int))])] [] 0
theorem law11_awake_tells : Tells Tryz.prog 17 law11_awake_m.c := law11_awake_m.tells Tryz.func17 (show ∀ p, arun law11_awake_env Tryz.f17 (law11_awake_m.enc p).1 (law11_awake_m.enc p).2 = _ from fun p => by kernel_rfl) noLoops (.cons certify_Flows_tells (.cons certify_Check_tells (.cons ref01_Spans_tells .nil)))
noncomputable def law11_awake : Option (Bool) := law11_awake_m.val ()
theorem law11_awake_eq : law11_awake = (law11_awake_t).get := law11_awake_m.val_eq (fun _ => ()) (fun p => by kernel_rfl) ()
theorem law11_awake_inj : ∀ a b, law11_awake_m.enc a = law11_awake_m.enc b → a = b := linj (fun _ => ()) (fun p => by kernel_rfl)
end Go.Proofs.YtnoeblpanfbpjaaGreat.Ab
