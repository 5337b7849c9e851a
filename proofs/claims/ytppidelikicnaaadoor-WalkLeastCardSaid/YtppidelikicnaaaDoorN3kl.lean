/- Mirrors of code, stage 3. -/
import Derived.Test.YtppidelikicnaaaDoorN3kd
namespace Go.Proofs.YtppidelikicnaaaDoor.Ab
open Go
attribute [local irreducible] arun



/-! minecontrol/minecontrollaw03.WalkLeast -/
noncomputable def law03_WalkLeast_l6_step (u6_0 u6_1 : Int) (u6_2 : Sq SPlace) (u6_3 : Sq SRoad) (u6_4 : (Sq (Sq Int))) (u6_5 : Int) : DT (LR (Int) (Unit) (Unit)) :=
 .ite (decide (u6_5 < (2 : Int))) (
 .ite (decide ((0 : Int) ≤ u6_5 ∧ u6_5 < ((u6_4.n : Nat) : Int))) (
 .bind (walk_Least (SMine.mk u6_2 u6_3) (u6_4.f (Int.toNat u6_5))) fun z0 =>
 .bind (ref03_Least (SMine.mk u6_2 u6_3) (u6_4.f (Int.toNat u6_5))) fun z1 =>
 .bind (ref01_Ints z0 z1) fun z2 =>
 .ite (!z2) (
 .leaf (.r ())) (
 .bind (walk_Within (SMine.mk u6_2 u6_3) (u6_4.f (Int.toNat u6_5)) u6_1) fun z3 =>
 .bind (ref03_Within (SMine.mk u6_2 u6_3) (u6_4.f (Int.toNat u6_5)) u6_1) fun z4 =>
 .bind (ref01_Ints z3 z4) fun z5 =>
 .ite (!z5) (
 .leaf (.r ())) (
 .bind (walk_Within (SMine.mk u6_2 u6_3) (u6_4.f (Int.toNat u6_5)) u6_0) fun z6 =>
 .bind (ref03_Within (SMine.mk u6_2 u6_3) (u6_4.f (Int.toNat u6_5)) u6_0) fun z7 =>
 .bind (ref01_Ints z6 z7) fun z8 =>
 .ite (!z8) (
 .leaf (.r ())) (
 .leaf (.next (wr (u6_5 + (1 : Int)))))))) (
 .fail)) (
 .leaf (.l ()))
noncomputable def law03_WalkLeast_l6_m : LpM := ⟨Int × Int × (Sq SPlace) × (Sq SRoad) × (Sq (Sq Int)), Int, Unit, Unit, fun p => ⟨[(2, .int .i64 p.1.1), (8, .ptr 384 0), (10, .int .i64 p.1.2.1), (24, .own 1088 0), (25, .int .i64 (2 : Int)), (26, .int .i64 p.2)], [(384, .var [sqA 2 SPlace.enc p.1.2.2.1, sqA 10 SRoad.enc p.1.2.2.2.1]), (1088, rowA 0 1 31 (eQ 1 (eI .i64)) p.1.2.2.2.2)], 1280⟩, fun f v => law03_WalkLeast_l6_step f.1 f.2.1 f.2.2.1 f.2.2.2.1 f.2.2.2.2 v, false, (.exit 0), (fun x _ => ⟨[(6, .undef)], [(384, blkS x 384), (1088, blkS x 1088)], 1280⟩), .ret, (fun x _ => ⟨[(6, .bool false)], [(384, blkS x 384), (1088, blkS x 1088)], 1280⟩), c1, c1k⟩
noncomputable def law03_WalkLeast_l6 (u6_0 u6_1 : Int) (u6_2 : Sq SPlace) (u6_3 : Sq SRoad) (u6_4 : (Sq (Sq Int))) (u6_5 : Int) : Option ((Unit) ⊕ (Unit)) := law03_WalkLeast_l6_m.val ((u6_0, u6_1, u6_2, u6_3, u6_4), u6_5)
theorem law03_WalkLeast_l6_eq (u6_0 u6_1 : Int) (u6_2 : Sq SPlace) (u6_3 : Sq SRoad) (u6_4 : (Sq (Sq Int))) (u6_5 : Int) : law03_WalkLeast_l6 u6_0 u6_1 u6_2 u6_3 u6_4 u6_5 = fixO (fun v : Int => law03_WalkLeast_l6_step u6_0 u6_1 u6_2 u6_3 u6_4 v) u6_5 := law03_WalkLeast_l6_m.val_eq (fun x => ((intA (aget x.tm 2), intA (aget x.tm 10), sqD SPlace.dec (cellS x 384 0), sqD SRoad.dec (cellS x 384 1), sqB (dQ dI) (blkS x 1088)), intA (aget x.tm 26))) (fun p => by kernel_rfl) ((u6_0, u6_1, u6_2, u6_3, u6_4), u6_5)
noncomputable def law03_WalkLeast_t (codes raw : Sq Int) (until_ : Int) : DT (Bool) :=
 .bind (New codes) fun z9 =>
 .bind (Codes_Mine z9) fun z10 =>
 .bind (law03_times (SCodes.mk z9.l_ z10.2) z10.1) fun z11 =>
 .bind (Mod until_ (900 : Int)) fun z12 =>
 .sum (law03_WalkLeast_l6 until_ z12 z10.1.Places z10.1.Roads (Sq.mk 2 (fun k0 => (Sq.mk (cond (Nat.beq k0 0) z11.1.n raw.n) (fun k1 => (cond (Nat.beq k0 0) (z11.1.f k1) (raw.f k1)))))) (0 : Int)) (fun _ =>
 .bind (law03_awake) fun z13 =>
 .leaf z13) (fun _ => .leaf false)
noncomputable def law03_WalkLeast_m : FnM := flM ((Sq Int) × (Sq Int) × Int) (Bool) (fun p => ([sqA 1 (eI .u8) p.1, sqA 1 (eI .i64) p.2.1, .int .i64 p.2.2], [])) (fun p => law03_WalkLeast_t p.1 p.2.1 p.2.2) (fun r => .bool r) (fun _ => rfl)
noncomputable def law03_WalkLeast_env : Env := envM [(9, New_m.c), (10, Codes_Mine_m.c), (17, law03_times_m.c), (11, Mod_m.c), (19, walk_Least_m.c), (20, ref03_Least_m.c), (18, ref01_Ints_m.c), (21, walk_Within_m.c), (22, ref03_Within_m.c), (16, law03_awake_m.c)] [(6, [2, 8, 10, 24, 25, 26], [6])] [(6, law03_WalkLeast_l6_m.c)] [(3, [.freeze 320, .freeze 321]), (5, [.freeze 640])] [(6, [384, 1088])] 0
noncomputable def law03_WalkLeast_e : Env := { law03_WalkLeast_env with nt := 64 }
theorem law03_WalkLeast_l6_tells : LoopTells law03_WalkLeast_e (loopOf 6 Tryd.f4) law03_WalkLeast_l6_m.c := law03_WalkLeast_l6_m.tells 1280 (fun _ => by kernel_rfl) (fun _ _ _ _ => by kernel_rfl) (fun _ _ _ _ => by kernel_rfl) fun R f v N K => by kernel_rfl
theorem law03_WalkLeast_tells : Tells Tryd.prog 4 law03_WalkLeast_m.c := law03_WalkLeast_m.tells Tryd.func4 (show ∀ p, arun law03_WalkLeast_env Tryd.f4 (law03_WalkLeast_m.enc p).1 (law03_WalkLeast_m.enc p).2 = _ from fun p => by kernel_rfl) (loopsL [loopOf 6 Tryd.f4] (by kernel_rfl) ⟨lpT (by kernel_rfl) law03_WalkLeast_l6_tells, trivial⟩) (.cons New_tells (.cons Codes_Mine_tells (.cons law03_times_tells (.cons Mod_tells (.cons walk_Least_tells (.cons ref03_Least_tells (.cons ref01_Ints_tells (.cons walk_Within_tells (.cons ref03_Within_tells (.cons law03_awake_tells .nil))))))))))
noncomputable def law03_WalkLeast (codes raw : Sq Int) (until_ : Int) : Option (Bool) := law03_WalkLeast_m.val (codes, raw, until_)
theorem law03_WalkLeast_eq (codes raw : Sq Int) (until_ : Int) : law03_WalkLeast codes raw until_ = (law03_WalkLeast_t codes raw until_).get := law03_WalkLeast_m.val_eq (fun x => (sqD dI (gd x.1 0), sqD dI (gd x.1 1), intA (gd x.1 2))) (fun p => by kernel_rfl) (codes, raw, until_)
theorem law03_WalkLeast_inj : ∀ a b, law03_WalkLeast_m.enc a = law03_WalkLeast_m.enc b → a = b := linj (fun x => (sqD dI (gd x.1 0), sqD dI (gd x.1 1), intA (gd x.1 2))) (fun p => by kernel_rfl)
end Go.Proofs.YtppidelikicnaaaDoor.Ab
