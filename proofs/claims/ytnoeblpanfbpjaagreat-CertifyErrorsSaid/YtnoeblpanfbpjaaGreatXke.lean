/- Mirrors of code, stage 11. -/
import Derived.Test.YtnoeblpanfbpjaaGreatXkv
namespace Go.Proofs.YtnoeblpanfbpjaaGreat.Ab
open Go
attribute [local irreducible] arun



/-! minecontrol/minecontrollaw11.CertifyErrors -/
noncomputable def law11_CertifyErrors_t (a : SAir) (s : SSetting) (b : SBounds) : DT (Bool) :=
 .ite (decide (((a.Mine.Places.n : Nat) : Int) > (12 : Int))) (
 .bind (law11_awake) fun z0 =>
 .leaf z0) (
 .ite (decide (((a.Mine.Roads.n : Nat) : Int) > (12 : Int))) (
 .bind (law11_awake) fun z1 =>
 .leaf z1) (
 .bind (certify_Check a s b) fun z2 =>
 .bind (ref11_Check a s b) fun z3 =>
 .ite (z2 == z3) (
 .bind (certify_Flows a s b) fun z4 =>
 .bind (ref11_Flows a s b) fun z5 =>
 .bind (ref01_Spans z4 z5) fun z6 =>
 .ite z6 (
 .bind (law11_awake) fun z7 =>
 .leaf z7) (
 .leaf false)) (
 .leaf false)))
noncomputable def law11_CertifyErrors_m : FnM := flM (SAir × SSetting × SBounds) (Bool) (fun p => ([.agg (SAir.enc p.1), .agg (SSetting.enc p.2.1), .agg (SBounds.enc p.2.2)], [])) (fun p => law11_CertifyErrors_t p.1 p.2.1 p.2.2) (fun r => .bool r) (fun _ => rfl)
noncomputable def law11_CertifyErrors_env : Env := envM [(17, law11_awake_m.c), (12, certify_Check_m.c), (13, ref11_Check_m.c), (15, certify_Flows_m.c), (16, ref11_Flows_m.c), (14, ref01_Spans_m.c)] [] [] [] [] 0
theorem law11_CertifyErrors_tells : Tells Tryz.prog 4 law11_CertifyErrors_m.c := law11_CertifyErrors_m.tells Tryz.func4 (show ∀ p, arun law11_CertifyErrors_env Tryz.f4 (law11_CertifyErrors_m.enc p).1 (law11_CertifyErrors_m.enc p).2 = _ from fun p => by kernel_rfl) noLoops (.cons law11_awake_tells (.cons certify_Check_tells (.cons ref11_Check_tells (.cons certify_Flows_tells (.cons ref11_Flows_tells (.cons ref01_Spans_tells .nil))))))
noncomputable def law11_CertifyErrors (a : SAir) (s : SSetting) (b : SBounds) : Option (Bool) := law11_CertifyErrors_m.val (a, s, b)
theorem law11_CertifyErrors_eq (a : SAir) (s : SSetting) (b : SBounds) : law11_CertifyErrors a s b = (law11_CertifyErrors_t a s b).get := law11_CertifyErrors_m.val_eq (fun x => (SAir.dec (aggL (gd x.1 0)), SSetting.dec (aggL (gd x.1 1)), SBounds.dec (aggL (gd x.1 2)))) (fun p => by kernel_rfl) (a, s, b)
theorem law11_CertifyErrors_inj : ∀ a b, law11_CertifyErrors_m.enc a = law11_CertifyErrors_m.enc b → a = b := linj (fun x => (SAir.dec (aggL (gd x.1 0)), SSetting.dec (aggL (gd x.1 1)), SBounds.dec (aggL (gd x.1 2)))) (fun p => by kernel_rfl)
end Go.Proofs.YtnoeblpanfbpjaaGreat.Ab
