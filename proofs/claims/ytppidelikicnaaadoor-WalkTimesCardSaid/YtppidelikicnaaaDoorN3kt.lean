/- Mirrors of code, stage 3. -/
import Derived.Test.YtppidelikicnaaaDoorN3a
namespace Go.Proofs.YtppidelikicnaaaDoor.Ab
open Go
attribute [local irreducible] arun



/-! minecontrol/minecontrollaw03.WalkTimes -/
noncomputable def law03_WalkTimes_l3_step (u3_0 : Bool) (u3_1 : Sq SPlace) (u3_2 : Sq SRoad) (u3_3 : Sq Int) (u3_4 : Int) : DT (LR (Int) (Unit) (Unit)) :=
 .ite (decide (u3_4 < (2 : Int))) (
 .ite (decide ((0 : Int) ≤ u3_4 ∧ u3_4 < ((u3_3.n : Nat) : Int))) (
 .bind (walk_Time (SMine.mk u3_1 u3_2) (u3_3.f (Int.toNat u3_4)) u3_0) fun z0 =>
 .bind (ref03_Time (SMine.mk u3_1 u3_2) (u3_3.f (Int.toNat u3_4)) u3_0) fun z1 =>
 .ite (z0 != z1) (
 .leaf (.r ())) (
 .bind (walk_Slow (SMine.mk u3_1 u3_2) (u3_3.f (Int.toNat u3_4)) u3_0) fun z2 =>
 .bind (ref03_Slow (SMine.mk u3_1 u3_2) (u3_3.f (Int.toNat u3_4)) u3_0) fun z3 =>
 .ite (z2 != z3) (
 .leaf (.r ())) (
 .leaf (.next (wr (u3_4 + (1 : Int))))))) (
 .fail)) (
 .leaf (.l ()))
noncomputable def law03_WalkTimes_l3_m : LpM := ⟨Bool × (Sq SPlace) × (Sq SRoad) × (Sq Int), Int, Unit, Unit, fun p => ⟨[(2, .bool p.1.1), (7, .ptr 256 0), (20, .own 832 0), (21, .int .i64 (2 : Int)), (22, .int .i64 p.2)], [(192, rowA 0 2 55 SPlace.enc p.1.2.1), (193, rowA 0 10 49 SRoad.enc p.1.2.2.1), (256, .var [.own 192 0, .own 193 0]), (832, rowA 0 1 3 (eI .i64) p.1.2.2.2)], 1024⟩, fun f v => law03_WalkTimes_l3_step f.1 f.2.1 f.2.2.1 f.2.2.2 v, false, (.exit 0), (fun x _ => ⟨[(6, .undef)], [(192, blkS x 192), (193, blkS x 193), (256, .var [.own 192 0, .own 193 0]), (832, blkS x 832)], 1024⟩), .ret, (fun x _ => ⟨[(6, .bool false)], [(192, blkS x 192), (193, blkS x 193), (256, .var [.own 192 0, .own 193 0]), (832, blkS x 832)], 1024⟩), c1, c1k⟩
noncomputable def law03_WalkTimes_l3 (u3_0 : Bool) (u3_1 : Sq SPlace) (u3_2 : Sq SRoad) (u3_3 : Sq Int) (u3_4 : Int) : Option ((Unit) ⊕ (Unit)) := law03_WalkTimes_l3_m.val ((u3_0, u3_1, u3_2, u3_3), u3_4)
theorem law03_WalkTimes_l3_eq (u3_0 : Bool) (u3_1 : Sq SPlace) (u3_2 : Sq SRoad) (u3_3 : Sq Int) (u3_4 : Int) : law03_WalkTimes_l3 u3_0 u3_1 u3_2 u3_3 u3_4 = fixO (fun v : Int => law03_WalkTimes_l3_step u3_0 u3_1 u3_2 u3_3 v) u3_4 := law03_WalkTimes_l3_m.val_eq (fun x => ((boolA (aget x.tm 2), sqB SPlace.dec (blkS x 192), sqB SRoad.dec (blkS x 193), sqB dI (blkS x 832)), intA (aget x.tm 22))) (fun p => by kernel_rfl) ((u3_0, u3_1, u3_2, u3_3), u3_4)
noncomputable def law03_WalkTimes_t (codes : Sq Int) (road : Int) (back : Bool) : DT (Bool) :=
 .bind (New codes) fun z4 =>
 .bind (Codes_Mine z4) fun z5 =>
 .bind (Mod road (wr (((z5.1.Roads.n : Nat) : Int) + (1 : Int)))) fun z6 =>
 .sum (law03_WalkTimes_l3 back z5.1.Places z5.1.Roads (Sq.mk 2 (fun k0 => (cond (Nat.beq k0 0) road z6))) (0 : Int)) (fun _ =>
 .bind (law03_awake) fun z7 =>
 .leaf z7) (fun _ => .leaf false)
noncomputable def law03_WalkTimes_m : FnM := flM ((Sq Int) × Int × Bool) (Bool) (fun p => ([sqA 1 (eI .u8) p.1, .int .i64 p.2.1, .bool p.2.2], [])) (fun p => law03_WalkTimes_t p.1 p.2.1 p.2.2) (fun r => .bool r) (fun _ => rfl)
noncomputable def law03_WalkTimes_env : Env := envM [(9, New_m.c), (10, Codes_Mine_m.c), (11, Mod_m.c), (12, walk_Time_m.c), (13, ref03_Time_m.c), (14, walk_Slow_m.c), (15, ref03_Slow_m.c), (16, law03_awake_m.c)] [(3, [2, 7, 20, 21, 22], [6])] [(3, law03_WalkTimes_l3_m.c)] [] [(3, [192, 193, 256, 832])] 0
noncomputable def law03_WalkTimes_e : Env := { law03_WalkTimes_env with nt := 48 }
theorem law03_WalkTimes_l3_tells : LoopTells law03_WalkTimes_e (loopOf 3 Tryd.f3) law03_WalkTimes_l3_m.c := law03_WalkTimes_l3_m.tells 1024 (fun _ => by kernel_rfl) (fun _ _ _ _ => by kernel_rfl) (fun _ _ _ _ => by kernel_rfl) fun R f v N K => by kernel_rfl
theorem law03_WalkTimes_tells : Tells Tryd.prog 3 law03_WalkTimes_m.c := law03_WalkTimes_m.tells Tryd.func3 (show ∀ p, arun law03_WalkTimes_env Tryd.f3 (law03_WalkTimes_m.enc p).1 (law03_WalkTimes_m.enc p).2 = _ from fun p => by kernel_rfl) (loopsL [loopOf 3 Tryd.f3] (by kernel_rfl) ⟨lpT (by kernel_rfl) law03_WalkTimes_l3_tells, trivial⟩) (.cons New_tells (.cons Codes_Mine_tells (.cons Mod_tells (.cons walk_Time_tells (.cons ref03_Time_tells (.cons walk_Slow_tells (.cons ref03_Slow_tells (.cons law03_awake_tells .nil))))))))
noncomputable def law03_WalkTimes (codes : Sq Int) (road : Int) (back : Bool) : Option (Bool) := law03_WalkTimes_m.val (codes, road, back)
theorem law03_WalkTimes_eq (codes : Sq Int) (road : Int) (back : Bool) : law03_WalkTimes codes road back = (law03_WalkTimes_t codes road back).get := law03_WalkTimes_m.val_eq (fun x => (sqD dI (gd x.1 0), intA (gd x.1 1), boolA (gd x.1 2))) (fun p => by kernel_rfl) (codes, road, back)
theorem law03_WalkTimes_inj : ∀ a b, law03_WalkTimes_m.enc a = law03_WalkTimes_m.enc b → a = b := linj (fun x => (sqD dI (gd x.1 0), intA (gd x.1 1), boolA (gd x.1 2))) (fun p => by kernel_rfl)
end Go.Proofs.YtppidelikicnaaaDoor.Ab
