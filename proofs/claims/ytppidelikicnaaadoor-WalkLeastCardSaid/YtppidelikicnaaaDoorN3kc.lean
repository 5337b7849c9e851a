/- Mirrors of code, stage 3. -/
import Derived.Test.YtppidelikicnaaaDoorN3kd
namespace Go.Proofs.YtppidelikicnaaaDoor.Ab
open Go
attribute [local irreducible] arun



/-! minecontrol/minecontrollaw03.WalkCloses -/
noncomputable def law03_WalkCloses_l18_step (u18_0 u18_1 u18_2 u18_3 : Sq Int) (u18_4 : Int) : DT (LR (Int) (Unit) (Unit)) :=
 .ite (decide (u18_4 < ((u18_0.n : Nat) : Int))) (
 .ite (decide ((0 : Int) ≤ u18_4 ∧ u18_4 < ((u18_1.n : Nat) : Int))) (
 .ite (decide ((0 : Int) ≤ u18_4 ∧ u18_4 < ((u18_0.n : Nat) : Int))) (
 .ite (decide ((u18_1.f (Int.toNat u18_4)) > (u18_0.f (Int.toNat u18_4)))) (
 .leaf (.r ())) (
 .ite (decide ((0 : Int) ≤ u18_4 ∧ u18_4 < ((u18_2.n : Nat) : Int))) (
 .ite (decide ((0 : Int) ≤ u18_4 ∧ u18_4 < ((u18_1.n : Nat) : Int))) (
 .ite (decide ((u18_2.f (Int.toNat u18_4)) > (u18_1.f (Int.toNat u18_4)))) (
 .leaf (.r ())) (
 .ite (decide ((0 : Int) ≤ u18_4 ∧ u18_4 < ((u18_3.n : Nat) : Int))) (
 .ite (decide ((0 : Int) ≤ u18_4 ∧ u18_4 < ((u18_1.n : Nat) : Int))) (
 .ite (decide ((u18_3.f (Int.toNat u18_4)) < (u18_1.f (Int.toNat u18_4)))) (
 .leaf (.r ())) (
 .leaf (.next (wr (u18_4 + (1 : Int)))))) (
 .fail)) (
 .fail))) (
 .fail)) (
 .fail))) (
 .fail)) (
 .fail)) (
 .leaf (.l ()))
noncomputable def law03_WalkCloses_l18_m : LpM := ⟨(Sq Int) × (Sq Int) × (Sq Int) × (Sq Int), Int, Unit, Unit, fun p => ⟨[(9, sqA 1 (eI .i64) p.1.1), (10, sqA 1 (eI .i64) p.1.2.1), (13, .own 3136 0), (15, .own 4544 0), (16, .int .i64 p.2)], [(3136, rowA 0 1 3 (eI .i64) p.1.2.2.1), (4544, rowA 0 1 3 (eI .i64) p.1.2.2.2)], 5568⟩, fun f v => law03_WalkCloses_l18_step f.1 f.2.1 f.2.2.1 f.2.2.2 v, false, (.exit 0), (fun x _ => ⟨[(6, .undef)], [(3136, blkS x 3136), (4544, blkS x 4544)], 5568⟩), .ret, (fun x _ => ⟨[(6, .bool false)], [(3136, blkS x 3136), (4544, blkS x 4544)], 5568⟩), c1, c1k⟩
noncomputable def law03_WalkCloses_l18 (u18_0 u18_1 u18_2 u18_3 : Sq Int) (u18_4 : Int) : Option ((Unit) ⊕ (Unit)) := law03_WalkCloses_l18_m.val ((u18_0, u18_1, u18_2, u18_3), u18_4)
theorem law03_WalkCloses_l18_eq (u18_0 u18_1 u18_2 u18_3 : Sq Int) (u18_4 : Int) : law03_WalkCloses_l18 u18_0 u18_1 u18_2 u18_3 u18_4 = fixO (fun v : Int => law03_WalkCloses_l18_step u18_0 u18_1 u18_2 u18_3 v) u18_4 := law03_WalkCloses_l18_m.val_eq (fun x => ((sqD dI (aget x.tm 9), sqD dI (aget x.tm 10), sqB dI (blkS x 3136), sqB dI (blkS x 4544)), intA (aget x.tm 16))) (fun p => by kernel_rfl) ((u18_0, u18_1, u18_2, u18_3), u18_4)
noncomputable def law03_WalkCloses_t (codes : Sq Int) (place road : Int) : DT (Bool) :=
 .bind (New codes) fun z0 =>
 .bind (Codes_Mine z0) fun z1 =>
 .bind (law03_times (SCodes.mk z0.l_ z1.2) z1.1) fun z2 =>
 .bind (walk_Least z1.1 z2.1) fun z3 =>
 .ite (((z3.n : Nat) : Int) != ((z2.1.n : Nat) : Int)) (
 .leaf false) (
 .bind (walk_Least z1.1 z3) fun z4 =>
 .bind (ref01_Ints z4 z3) fun z5 =>
 .ite (!z5) (
 .leaf false) (
 .ite (decide (z2.1.n * 8 ≤ 140737488355328 ∧ z2.1.n ≤ 1099511627776)) (
 .bind (Mod place ((z2.1.n : Nat) : Int)) fun z6 =>
 .ite (decide ((0 : Int) ≤ z6 ∧ z6 < ((z2.1.n : Nat) : Int))) (
 .ite (decide ((0 : Int) ≤ z6 ∧ z6 < ((z2.1.n : Nat) : Int))) (
 .bind (walk_Least z1.1 (Sq.mk z2.1.n (fun k0 => (cond (Nat.beq k0 (Int.toNat z6)) (wr (Int.tdiv (z2.1.f (Int.toNat z6)) (2 : Int))) (z2.1.f k0))))) fun z7 =>
 .bind (ref01_Copy z1.1) fun z8 =>
 .ite (decide (((z8.Roads.n : Nat) : Int) > (0 : Int))) (
 .bind (Mod road ((z8.Roads.n : Nat) : Int)) fun z9 =>
 .ite (decide ((0 : Int) ≤ z9 ∧ z9 < ((z8.Roads.n : Nat) : Int))) (
 .bind (walk_Least (SMine.mk z8.Places (Sq.mk z8.Roads.n (fun k1 => (SRoad.mk (cond (Nat.beq k1 (Int.toNat z9)) (z8.Roads.f (Int.toNat z9)).From (z8.Roads.f k1).From) (cond (Nat.beq k1 (Int.toNat z9)) (z8.Roads.f (Int.toNat z9)).To (z8.Roads.f k1).To) (cond (Nat.beq k1 (Int.toNat z9)) (z8.Roads.f (Int.toNat z9)).Length (z8.Roads.f k1).Length) (cond (Nat.beq k1 (Int.toNat z9)) (z8.Roads.f (Int.toNat z9)).Area (z8.Roads.f k1).Area) (cond (Nat.beq k1 (Int.toNat z9)) (z8.Roads.f (Int.toNat z9)).Walk (z8.Roads.f k1).Walk) (cond (Nat.beq k1 (Int.toNat z9)) true (z8.Roads.f k1).Closed) (SSpan.mk (cond (Nat.beq k1 (Int.toNat z9)) (z8.Roads.f (Int.toNat z9)).Rest.Low (z8.Roads.f k1).Rest.Low) (cond (Nat.beq k1 (Int.toNat z9)) (z8.Roads.f (Int.toNat z9)).Rest.High (z8.Roads.f k1).Rest.High)) (SSpan.mk (cond (Nat.beq k1 (Int.toNat z9)) (z8.Roads.f (Int.toNat z9)).Lift.Low (z8.Roads.f k1).Lift.Low) (cond (Nat.beq k1 (Int.toNat z9)) (z8.Roads.f (Int.toNat z9)).Lift.High (z8.Roads.f k1).Lift.High)))))) z2.1) fun z10 =>
 .ite (((z7.n : Nat) : Int) != ((z2.1.n : Nat) : Int)) (
 .leaf false) (
 .ite (((z10.n : Nat) : Int) != ((z2.1.n : Nat) : Int)) (
 .leaf false) (
 .sum (law03_WalkCloses_l18 z2.1 z3 z7 z10 (0 : Int)) (fun _ =>
 .bind (law03_awake) fun z11 =>
 .leaf z11) (fun _ => .leaf false)))) (
 .fail)) (
 .bind (walk_Least z8 z2.1) fun z12 =>
 .ite (((z7.n : Nat) : Int) != ((z2.1.n : Nat) : Int)) (
 .leaf false) (
 .ite (((z12.n : Nat) : Int) != ((z2.1.n : Nat) : Int)) (
 .leaf false) (
 .sum (law03_WalkCloses_l18 z2.1 z3 z7 z12 (0 : Int)) (fun _ =>
 .bind (law03_awake) fun z13 =>
 .leaf z13) (fun _ => .leaf false))))) (
 .fail)) (
 .fail)) (
 .fail)))
noncomputable def law03_WalkCloses_m : FnM := flM ((Sq Int) × Int × Int) (Bool) (fun p => ([sqA 1 (eI .u8) p.1, .int .i64 p.2.1, .int .i64 p.2.2], [])) (fun p => law03_WalkCloses_t p.1 p.2.1 p.2.2) (fun r => .bool r) (fun _ => rfl)
noncomputable def law03_WalkCloses_env : Env := envM [(9, New_m.c), (10, Codes_Mine_m.c), (17, law03_times_m.c), (19, walk_Least_m.c), (18, ref01_Ints_m.c), (11, Mod_m.c), (25, ref01_Copy_m.c), (16, law03_awake_m.c)] [(18, [9, 10, 13, 15, 16], [6])] [(18, law03_WalkCloses_l18_m.c)] [(3, [.freeze 320, .freeze 321]), (4, [.freeze 640]), (5, [.freeze 896]), (10, [.freeze 1984]), (14, [.freeze 3328, .freeze 3329])] [(18, [3136, 4544])] 0
noncomputable def law03_WalkCloses_e : Env := { law03_WalkCloses_env with nt := 125 }
theorem law03_WalkCloses_l18_tells : LoopTells law03_WalkCloses_e (loopOf 18 Tryd.f7) law03_WalkCloses_l18_m.c := law03_WalkCloses_l18_m.tells 5568 (fun _ => by kernel_rfl) (fun _ _ _ _ => by kernel_rfl) (fun _ _ _ _ => by kernel_rfl) fun R f v N K => by kernel_rfl
theorem law03_WalkCloses_tells : Tells Tryd.prog 7 law03_WalkCloses_m.c := law03_WalkCloses_m.tells Tryd.func7 (show ∀ p, arun law03_WalkCloses_env Tryd.f7 (law03_WalkCloses_m.enc p).1 (law03_WalkCloses_m.enc p).2 = _ from fun p => by kernel_rfl) (loopsL [loopOf 18 Tryd.f7] (by kernel_rfl) ⟨lpT (by kernel_rfl) law03_WalkCloses_l18_tells, trivial⟩) (.cons New_tells (.cons Codes_Mine_tells (.cons law03_times_tells (.cons walk_Least_tells (.cons ref01_Ints_tells (.cons Mod_tells (.cons ref01_Copy_tells (.cons law03_awake_tells .nil))))))))
noncomputable def law03_WalkCloses (codes : Sq Int) (place road : Int) : Option (Bool) := law03_WalkCloses_m.val (codes, place, road)
theorem law03_WalkCloses_eq (codes : Sq Int) (place road : Int) : law03_WalkCloses codes place road = (law03_WalkCloses_t codes place road).get := law03_WalkCloses_m.val_eq (fun x => (sqD dI (gd x.1 0), intA (gd x.1 1), intA (gd x.1 2))) (fun p => by kernel_rfl) (codes, place, road)
theorem law03_WalkCloses_inj : ∀ a b, law03_WalkCloses_m.enc a = law03_WalkCloses_m.enc b → a = b := linj (fun x => (sqD dI (gd x.1 0), intA (gd x.1 1), intA (gd x.1 2))) (fun p => by kernel_rfl)
end Go.Proofs.YtppidelikicnaaaDoor.Ab
