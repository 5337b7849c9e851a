/- Mirrors of code, stage 3. -/
import Derived.Test.YtppidelikicnaaaDoorN3a
namespace Go.Proofs.YtppidelikicnaaaDoor.Ab
open Go
attribute [local irreducible] arun



/-! minecontrol/minecontrollaw03.WalkThrough -/
noncomputable def law03_WalkThrough_t (codes : Sq Int) (a b d road : Int) (back : Bool) : DT (Bool) :=
 .bind (New codes) fun z0 =>
 .bind (Codes_Mine z0) fun z1 =>
 .bind (Mod a ((z1.1.Places.n : Nat) : Int)) fun z2 =>
 .bind (Mod b ((z1.1.Places.n : Nat) : Int)) fun z3 =>
 .bind (Mod d ((z1.1.Places.n : Nat) : Int)) fun z4 =>
 .bind (walk_Way z1.1 z2 z3) fun z5 =>
 .bind (walk_Way z1.1 z3 z4) fun z6 =>
 .bind (walk_Way z1.1 z2 z4) fun z7 =>
 .ite z5.2.2 (
 .ite z6.2.2 (
 .ite (!z7.2.2) (
 .leaf false) (
 .ite (decide (z7.2.1 > (wr (z5.2.1 + z6.2.1)))) (
 .leaf false) (
 .bind (Mod road (wr (((z1.1.Roads.n : Nat) : Int) + (1 : Int)))) fun z8 =>
 .bind (walk_Time z1.1 z8 back) fun z9 =>
 .bind (walk_Slow z1.1 z8 back) fun z10 =>
 .ite ((z9 == (-1 : Int)) == (z10 == (-1 : Int))) (
 .ite (z9 == (-1 : Int)) (
 .bind (law03_awake) fun z11 =>
 .leaf z11) (
 .ite (decide (z9 ≥ (1 : Int))) (
 .ite (decide (z10 ≥ z9)) (
 .ite (decide (z10 ≤ (wr ((3 : Int) * z9)))) (
 .bind (law03_awake) fun z12 =>
 .leaf z12) (
 .leaf false)) (
 .leaf false)) (
 .leaf false))) (
 .leaf false)))) (
 .bind (Mod road (wr (((z1.1.Roads.n : Nat) : Int) + (1 : Int)))) fun z13 =>
 .bind (walk_Time z1.1 z13 back) fun z14 =>
 .bind (walk_Slow z1.1 z13 back) fun z15 =>
 .ite ((z14 == (-1 : Int)) == (z15 == (-1 : Int))) (
 .ite (z14 == (-1 : Int)) (
 .bind (law03_awake) fun z16 =>
 .leaf z16) (
 .ite (decide (z14 ≥ (1 : Int))) (
 .ite (decide (z15 ≥ z14)) (
 .ite (decide (z15 ≤ (wr ((3 : Int) * z14)))) (
 .bind (law03_awake) fun z17 =>
 .leaf z17) (
 .leaf false)) (
 .leaf false)) (
 .leaf false))) (
 .leaf false))) (
 .bind (Mod road (wr (((z1.1.Roads.n : Nat) : Int) + (1 : Int)))) fun z18 =>
 .bind (walk_Time z1.1 z18 back) fun z19 =>
 .bind (walk_Slow z1.1 z18 back) fun z20 =>
 .ite ((z19 == (-1 : Int)) == (z20 == (-1 : Int))) (
 .ite (z19 == (-1 : Int)) (
 .bind (law03_awake) fun z21 =>
 .leaf z21) (
 .ite (decide (z19 ≥ (1 : Int))) (
 .ite (decide (z20 ≥ z19)) (
 .ite (decide (z20 ≤ (wr ((3 : Int) * z19)))) (
 .bind (law03_awake) fun z22 =>
 .leaf z22) (
 .leaf false)) (
 .leaf false)) (
 .leaf false))) (
 .leaf false))
noncomputable def law03_WalkThrough_m : FnM := flM ((Sq Int) × Int × Int × Int × Int × Bool) (Bool) (fun p => ([sqA 1 (eI .u8) p.1, .int .i64 p.2.1, .int .i64 p.2.2.1, .int .i64 p.2.2.2.1, .int .i64 p.2.2.2.2.1, .bool p.2.2.2.2.2], [])) (fun p => law03_WalkThrough_t p.1 p.2.1 p.2.2.1 p.2.2.2.1 p.2.2.2.2.1 p.2.2.2.2.2) (fun r => .bool r) (fun _ => rfl)
noncomputable def law03_WalkThrough_env : Env := envM [(9, New_m.c), (10, Codes_Mine_m.c), (11, Mod_m.c), (23, walk_Way_m.c), (12, walk_Time_m.c), (14, walk_Slow_m.c), (16, law03_awake_m.c)] [] [] [(4, [.freeze 192, .freeze 193])] [] 0
theorem law03_WalkThrough_tells : Tells Tryd.prog 8 law03_WalkThrough_m.c := law03_WalkThrough_m.tells Tryd.func8 (show ∀ p, arun law03_WalkThrough_env Tryd.f8 (law03_WalkThrough_m.enc p).1 (law03_WalkThrough_m.enc p).2 = _ from fun p => by kernel_rfl) noLoops (.cons New_tells (.cons Codes_Mine_tells (.cons Mod_tells (.cons walk_Way_tells (.cons walk_Time_tells (.cons walk_Slow_tells (.cons law03_awake_tells .nil)))))))
noncomputable def law03_WalkThrough (codes : Sq Int) (a b d road : Int) (back : Bool) : Option (Bool) := law03_WalkThrough_m.val (codes, a, b, d, road, back)
theorem law03_WalkThrough_eq (codes : Sq Int) (a b d road : Int) (back : Bool) : law03_WalkThrough codes a b d road back = (law03_WalkThrough_t codes a b d road back).get := law03_WalkThrough_m.val_eq (fun x => (sqD dI (gd x.1 0), intA (gd x.1 1), intA (gd x.1 2), intA (gd x.1 3), intA (gd x.1 4), boolA (gd x.1 5))) (fun p => by kernel_rfl) (codes, a, b, d, road, back)
theorem law03_WalkThrough_inj : ∀ a b, law03_WalkThrough_m.enc a = law03_WalkThrough_m.enc b → a = b := linj (fun x => (sqD dI (gd x.1 0), intA (gd x.1 1), intA (gd x.1 2), intA (gd x.1 3), intA (gd x.1 4), boolA (gd x.1 5))) (fun p => by kernel_rfl)
end Go.Proofs.YtppidelikicnaaaDoor.Ab
