/- Mirrors of code, stage 10. -/
import Derived.Test.YtandmllkfeghbaaXc
namespace Go.Proofs.Ytandmllkfeghbaa.Ab
open Go
attribute [local irreducible] arun



/-! minecontrol/minecontrollaw10.awake -/
noncomputable def law10_awake_t : DT (Bool) :=
 .bind (balance_Least (SAir.mk (SMine.mk (Sq.mk 2 (fun k0 => (SPlace.mk (cond (Nat.beq k0 0) (0 : Int) (0 : Int)) (cond (Nat.beq k0 0) true false)))) (Sq.mk 1 (fun _ => (SRoad.mk (1 : Int) (0 : Int) (1 : Int) (1 : Int) false false (SSpan.mk (1 : Int) (1 : Int)) (SSpan.mk (-100 : Int) (-100 : Int)))))) (Sq.mk 0 (fun _ => (SFan.mk (0 : Int) false false (Sq.mk 0 (fun _ => (SPoint.mk (0 : Int) (0 : Int))))))) (Sq.mk 0 (fun _ => (SDoor.mk (0 : Int) (0 : Int) (Sq.mk 0 (fun _ => (0 : Int))))))) (Sq.mk 2 (fun k1 => (cond (Nat.beq k1 0) (0 : Int) (0 : Int)))) (1 : Int)) fun z0 =>
 .bind (balance_Net_v2 (SAir.mk (SMine.mk (Sq.mk 2 (fun k2 => (SPlace.mk (cond (Nat.beq k2 0) (0 : Int) (0 : Int)) (cond (Nat.beq k2 0) true false)))) (Sq.mk 1 (fun _ => (SRoad.mk (1 : Int) (0 : Int) (1 : Int) (1 : Int) false false (SSpan.mk (1 : Int) (1 : Int)) (SSpan.mk (-100 : Int) (-100 : Int)))))) (Sq.mk 0 (fun _ => (SFan.mk (0 : Int) false false (Sq.mk 0 (fun _ => (SPoint.mk (0 : Int) (0 : Int))))))) (Sq.mk 0 (fun _ => (SDoor.mk (0 : Int) (0 : Int) (Sq.mk 0 (fun _ => (0 : Int))))))) (Sq.mk 2 (fun k3 => (cond (Nat.beq k3 0) (0 : Int) (0 : Int)))) (1 : Int)) fun z1 =>
 .ite ((z1.Low == (-10 : Int)) && ((z1.High == (-10 : Int)) && true)) (
 .ite z0.2 (.leaf (z0.1 == (100 : Int))) (.leaf false)) (
 .leaf false)
noncomputable def law10_awake_m : FnM := flM (Unit) (Bool) (fun _ => ([], [])) (fun _ => law10_awake_t) (fun r => .bool r) (fun _ => rfl)
noncomputable def law10_awake_env : Env := envM [(17, balance_Least_m.c), (14, balance_Net_v2_m.c)] [] [] [(3, [.asrow 770 83 4 (fun _ => SFan.enc (SFan.mk (0 : Int) false false (Sq.mk 0 (fun _ => (SPoint.mk (0 : Int) (0 : Int)))))), .asrow 771 72 3 (fun _ => SDoor.enc (SDoor.mk (0 : Int) (0 : Int) (Sq.mk 0 (fun _ => (0 : Int)))))])] [] 0
theorem law10_awake_tells : Tells Try.prog 16 law10_awake_m.c := law10_awake_m.tells Try.func16 (show ∀ p, arun law10_awake_env Try.f16 (law10_awake_m.enc p).1 (law10_awake_m.enc p).2 = _ from fun p => by kernel_rfl) noLoops (.cons balance_Least_tells (.cons balance_Net_v2_tells .nil))
noncomputable def law10_awake : Option (Bool) := law10_awake_m.val ()
theorem law10_awake_eq : law10_awake = (law10_awake_t).get := law10_awake_m.val_eq (fun _ => ()) (fun p => by kernel_rfl) ()
theorem law10_awake_inj : ∀ a b, law10_awake_m.enc a = law10_awake_m.enc b → a = b := linj (fun _ => ()) (fun p => by kernel_rfl)

/-! minecontrol/minecontrollaw10.BalanceNets -/
noncomputable def law10_BalanceNets_t (codes raw : Sq Int) (place : Int) : DT (Bool) :=
 .bind (New codes) fun z0 =>
 .bind (Codes_Made z0) fun z1 =>
 .bind (law10_around (SCodes.mk z0.l_ z1.2.2.2) z1.1 z1.2.2.1) fun z2 =>
 .bind (Codes_Setting (SCodes.mk z0.l_ z2.2) z1.1) fun z3 =>
 .bind (Mod place (wr (((z2.1.n : Nat) : Int) + (1 : Int)))) fun z4 =>
 .bind (balance_Net z1.1 z1.2.1 z2.1 z4) fun z5 =>
 .bind (ref10_Net z1.1 z1.2.1 z2.1 z4) fun z6 =>
 .ite ((z5.Low == z6.Low) && ((z5.High == z6.High) && true)) (
 .bind (balance_Net z1.1 z3.1 z2.1 z4) fun z7 =>
 .bind (ref10_Net z1.1 z3.1 z2.1 z4) fun z8 =>
 .ite ((z7.Low == z8.Low) && ((z7.High == z8.High) && true)) (
 .bind (balance_Net z1.1 z1.2.1 raw z4) fun z9 =>
 .bind (ref10_Net z1.1 z1.2.1 raw z4) fun z10 =>
 .ite ((z9.Low == z10.Low) && ((z9.High == z10.High) && true)) (
 .bind (balance_Net z1.1 z1.2.1 z2.1 place) fun z11 =>
 .bind (ref10_Net z1.1 z1.2.1 z2.1 place) fun z12 =>
 .ite ((z11.Low == z12.Low) && ((z11.High == z12.High) && true)) (
 .bind (law10_awake) fun z13 =>
 .leaf z13) (
 .leaf false)) (
 .leaf false)) (
 .leaf false)) (
 .leaf false)
noncomputable def law10_BalanceNets_m : FnM := flM ((Sq Int) × (Sq Int) × Int) (Bool) (fun p => ([sqA 1 (eI .u8) p.1, sqA 1 (eI .i64) p.2.1, .int .i64 p.2.2], [])) (fun p => law10_BalanceNets_t p.1 p.2.1 p.2.2) (fun r => .bool r) (fun _ => rfl)
noncomputable def law10_BalanceNets_env : Env := envM [(9, New_m.c), (10, Codes_Made_m.c), (11, law10_around_m.c), (12, Codes_Setting_m.c), (13, Mod_m.c), (14, balance_Net_m.c), (15, ref10_Net_m.c), (16, law10_awake_m.c)] [] [] [(3, [.freeze 320, .freeze 321, .freeze 322, .freeze 323])] [] 0
theorem law10_BalanceNets_tells : Tells Try.prog 3 law10_BalanceNets_m.c := law10_BalanceNets_m.tells Try.func3 (show ∀ p, arun law10_BalanceNets_env Try.f3 (law10_BalanceNets_m.enc p).1 (law10_BalanceNets_m.enc p).2 = _ from fun p => by kernel_rfl) noLoops (.cons New_tells (.cons Codes_Made_tells (.cons law10_around_tells (.cons Codes_Setting_tells (.cons Mod_tells (.cons balance_Net_tells (.cons ref10_Net_tells (.cons law10_awake_tells .nil))))))))
noncomputable def law10_BalanceNets (codes raw : Sq Int) (place : Int) : Option (Bool) := law10_BalanceNets_m.val (codes, raw, place)
theorem law10_BalanceNets_eq (codes raw : Sq Int) (place : Int) : law10_BalanceNets codes raw place = (law10_BalanceNets_t codes raw place).get := law10_BalanceNets_m.val_eq (fun x => (sqD dI (gd x.1 0), sqD dI (gd x.1 1), intA (gd x.1 2))) (fun p => by kernel_rfl) (codes, raw, place)
theorem law10_BalanceNets_inj : ∀ a b, law10_BalanceNets_m.enc a = law10_BalanceNets_m.enc b → a = b := linj (fun x => (sqD dI (gd x.1 0), sqD dI (gd x.1 1), intA (gd x.1 2))) (fun p => by kernel_rfl)

/-! minecontrol/minecontrollaw10.BalanceSearches -/
noncomputable def law10_BalanceSearches_l6_step (u6_0 : Int) (u6_1 u6_2 : Sq Int) (u6_3 : Sq SPlace) (u6_4 : Sq SRoad) (u6_5 : Sq SFan) (u6_6 : Sq SDoor) (u6_7 : (Sq (Sq Int))) (u6_8 : Int) : DT (LR (Int) (Unit) (Unit)) :=
 .ite (decide (u6_8 < (3 : Int))) (
 .ite (decide ((0 : Int) ≤ u6_8 ∧ u6_8 < ((u6_7.n : Nat) : Int))) (
 .bind (balance_Least_v2 (SAir.mk (SMine.mk u6_3 u6_4) u6_5 u6_6) (SSetting.mk u6_1 u6_2) (u6_7.f (Int.toNat u6_8)) u6_0) fun z0 =>
 .bind (ref10_Least (SAir.mk (SMine.mk u6_3 u6_4) u6_5 u6_6) (SSetting.mk u6_1 u6_2) (u6_7.f (Int.toNat u6_8)) u6_0) fun z1 =>
 .bind (balance_Greatest (SAir.mk (SMine.mk u6_3 u6_4) u6_5 u6_6) (SSetting.mk u6_1 u6_2) (u6_7.f (Int.toNat u6_8)) u6_0) fun z2 =>
 .bind (ref10_Greatest (SAir.mk (SMine.mk u6_3 u6_4) u6_5 u6_6) (SSetting.mk u6_1 u6_2) (u6_7.f (Int.toNat u6_8)) u6_0) fun z3 =>
 .ite (z0.1 != z1.1) (
 .leaf (.r ())) (
 .ite (!(z0.2 == z1.2)) (
 .leaf (.r ())) (
 .ite (z2.1 != z3.1) (
 .leaf (.r ())) (
 .ite (!(z2.2 == z3.2)) (
 .leaf (.r ())) (
 .leaf (.next (wr (u6_8 + (1 : Int))))))))) (
 .fail)) (
 .leaf (.l ()))
noncomputable def law10_BalanceSearches_l6_m : LpM := ⟨Int × (Sq Int) × (Sq Int) × (Sq SPlace) × (Sq SRoad) × (Sq SFan) × (Sq SDoor) × (Sq (Sq Int)), Int, Unit, Unit, fun p => ⟨[(8, .ptr 640 0), (9, .ptr 704 0), (12, .int .i64 p.1.1), (44, .own 1984 0), (45, .int .i64 (3 : Int)), (46, .int .i64 p.2)], [(324, rowA 0 1 3 (eI .i64) p.1.2.1), (325, rowA 0 1 3 (eI .i64) p.1.2.2.1), (640, .var [sqA 2 SPlace.enc p.1.2.2.2.1, sqA 10 SRoad.enc p.1.2.2.2.2.1, sqA 4 SFan.enc p.1.2.2.2.2.2.1, sqA 3 SDoor.enc p.1.2.2.2.2.2.2.1]), (704, .var [.own 324 0, .own 325 0]), (1984, rowA 0 1 23 (eQ 1 (eI .i64)) p.1.2.2.2.2.2.2.2)], 2176⟩, fun f v => law10_BalanceSearches_l6_step f.1 f.2.1 f.2.2.1 f.2.2.2.1 f.2.2.2.2.1 f.2.2.2.2.2.1 f.2.2.2.2.2.2.1 f.2.2.2.2.2.2.2 v, false, (.exit 0), (fun x _ => ⟨[(6, .undef)], [(324, blkS x 324), (325, blkS x 325), (640, blkS x 640), (704, .var [.own 324 0, .own 325 0]), (1984, blkS x 1984)], 2176⟩), .ret, (fun x _ => ⟨[(6, .bool false)], [(324, blkS x 324), (325, blkS x 325), (640, blkS x 640), (704, .var [.own 324 0, .own 325 0]), (1984, blkS x 1984)], 2176⟩)⟩
noncomputable def law10_BalanceSearches_l6 (u6_0 : Int) (u6_1 u6_2 : Sq Int) (u6_3 : Sq SPlace) (u6_4 : Sq SRoad) (u6_5 : Sq SFan) (u6_6 : Sq SDoor) (u6_7 : (Sq (Sq Int))) (u6_8 : Int) : Option ((Unit) ⊕ (Unit)) := law10_BalanceSearches_l6_m.val ((u6_0, u6_1, u6_2, u6_3, u6_4, u6_5, u6_6, u6_7), u6_8)
theorem law10_BalanceSearches_l6_eq (u6_0 : Int) (u6_1 u6_2 : Sq Int) (u6_3 : Sq SPlace) (u6_4 : Sq SRoad) (u6_5 : Sq SFan) (u6_6 : Sq SDoor) (u6_7 : (Sq (Sq Int))) (u6_8 : Int) : law10_BalanceSearches_l6 u6_0 u6_1 u6_2 u6_3 u6_4 u6_5 u6_6 u6_7 u6_8 = fixO (fun v : Int => law10_BalanceSearches_l6_step u6_0 u6_1 u6_2 u6_3 u6_4 u6_5 u6_6 u6_7 v) u6_8 := law10_BalanceSearches_l6_m.val_eq (fun x => ((intA (aget x.tm 12), sqB dI (blkS x 324), sqB dI (blkS x 325), sqD SPlace.dec (cellS x 640 0), sqD SRoad.dec (cellS x 640 1), sqD SFan.dec (cellS x 640 2), sqD SDoor.dec (cellS x 640 3), sqB (dQ dI) (blkS x 1984)), intA (aget x.tm 46))) (fun p => by kernel_rfl) ((u6_0, u6_1, u6_2, u6_3, u6_4, u6_5, u6_6, u6_7), u6_8)
noncomputable def law10_BalanceSearches_t (codes raw : Sq Int) (place : Int) : DT (Bool) :=
 .bind (New codes) fun z4 =>
 .bind (Codes_Made z4) fun z5 =>
 .bind (law10_around (SCodes.mk z4.l_ z5.2.2.2) z5.1 z5.2.2.1) fun z6 =>
 .bind (Mod place (wr (((z6.1.n : Nat) : Int) + (1 : Int)))) fun z7 =>
 .sum (law10_BalanceSearches_l6 z7 z5.2.1.Fans z5.2.1.Doors z5.1.Mine.Places z5.1.Mine.Roads z5.1.Fans z5.1.Doors (Sq.mk 3 (fun k0 => (Sq.mk (cond (Nat.beq k0 0) z6.1.n (cond (Nat.beq (k0 - 1) 0) z5.2.2.1.Pressures.n raw.n)) (fun k1 => (cond (Nat.beq k0 0) (z6.1.f k1) (cond (Nat.beq (k0 - 1) 0) (z5.2.2.1.Pressures.f k1) (raw.f k1))))))) (0 : Int)) (fun _ =>
 .bind (law10_awake) fun z8 =>
 .leaf z8) (fun _ => .leaf false)
noncomputable def law10_BalanceSearches_m : FnM := flM ((Sq Int) × (Sq Int) × Int) (Bool) (fun p => ([sqA 1 (eI .u8) p.1, sqA 1 (eI .i64) p.2.1, .int .i64 p.2.2], [])) (fun p => law10_BalanceSearches_t p.1 p.2.1 p.2.2) (fun r => .bool r) (fun _ => rfl)
noncomputable def law10_BalanceSearches_env : Env := envM [(9, New_m.c), (10, Codes_Made_m.c), (11, law10_around_m.c), (13, Mod_m.c), (17, balance_Least_v2_m.c), (18, ref10_Least_m.c), (19, balance_Greatest_m.c), (20, ref10_Greatest_m.c), (16, law10_awake_m.c)] [(6, [8, 9, 12, 44, 45, 46], [6])] [(6, law10_BalanceSearches_l6_m.c)] [(3, [.freeze 320, .freeze 321, .freeze 322, .freeze 323]), (5, [.freeze 1216])] [(6, [324, 325, 640, 704, 1984])] 0
noncomputable def law10_BalanceSearches_e : Env := { law10_BalanceSearches_env with nt := 102 }
theorem law10_BalanceSearches_l6_tells : LoopTells law10_BalanceSearches_e (loopOf 6 Try.f4) law10_BalanceSearches_l6_m.c := law10_BalanceSearches_l6_m.tells 2176 (fun _ => by kernel_rfl) (fun _ _ _ _ => by kernel_rfl) (fun _ _ _ _ => by kernel_rfl) fun R f v N K => by kernel_rfl
theorem law10_BalanceSearches_tells : Tells Try.prog 4 law10_BalanceSearches_m.c := law10_BalanceSearches_m.tells Try.func4 (show ∀ p, arun law10_BalanceSearches_env Try.f4 (law10_BalanceSearches_m.enc p).1 (law10_BalanceSearches_m.enc p).2 = _ from fun p => by kernel_rfl) (loopsL [loopOf 6 Try.f4] (by kernel_rfl) ⟨lpT (by kernel_rfl) law10_BalanceSearches_l6_tells, trivial⟩) (.cons New_tells (.cons Codes_Made_tells (.cons law10_around_tells (.cons Mod_tells (.cons balance_Least_v2_tells (.cons ref10_Least_tells (.cons balance_Greatest_tells (.cons ref10_Greatest_tells (.cons law10_awake_tells .nil)))))))))
noncomputable def law10_BalanceSearches (codes raw : Sq Int) (place : Int) : Option (Bool) := law10_BalanceSearches_m.val (codes, raw, place)
theorem law10_BalanceSearches_eq (codes raw : Sq Int) (place : Int) : law10_BalanceSearches codes raw place = (law10_BalanceSearches_t codes raw place).get := law10_BalanceSearches_m.val_eq (fun x => (sqD dI (gd x.1 0), sqD dI (gd x.1 1), intA (gd x.1 2))) (fun p => by kernel_rfl) (codes, raw, place)
theorem law10_BalanceSearches_inj : ∀ a b, law10_BalanceSearches_m.enc a = law10_BalanceSearches_m.enc b → a = b := linj (fun x => (sqD dI (gd x.1 0), sqD dI (gd x.1 1), intA (gd x.1 2))) (fun p => by kernel_rfl)

/-! minecontrol/minecontrollaw10.BalanceRises -/
noncomputable def law10_BalanceRises_t (codes : Sq Int) (place other more : Int) : DT (Bool) :=
 .bind (New codes) fun z0 =>
 .bind (Codes_Made z0) fun z1 =>
 .bind (law10_around (SCodes.mk z0.l_ z1.2.2.2) z1.1 z1.2.2.1) fun z2 =>
 .bind (Mod place ((z2.1.n : Nat) : Int)) fun z3 =>
 .bind (Mod other ((z2.1.n : Nat) : Int)) fun z4 =>
 .ite (decide (z2.1.n * 8 ≤ 140737488355328 ∧ z2.1.n ≤ 1099511627776)) (
 .ite (decide ((0 : Int) ≤ z4 ∧ z4 < ((z2.1.n : Nat) : Int))) (
 .ite (decide ((0 : Int) ≤ z4 ∧ z4 < ((z2.1.n : Nat) : Int))) (
 .bind (balance_Net z1.1 z1.2.1 z2.1 z3) fun z5 =>
 .bind (balance_Net z1.1 z1.2.1 (Sq.mk z2.1.n (fun k0 => (cond (Nat.beq k0 (Int.toNat z4)) (wr ((z2.1.f (Int.toNat z4)) + (wr more))) (z2.1.f k0)))) z3) fun z6 =>
 .ite (decide (z5.Low > z5.High)) (
 .leaf false) (
 .ite (z4 == z3) (
 .ite (decide (z6.Low ≥ z5.Low)) (
 .ite (decide (z6.High ≥ z5.High)) (
 .bind (law10_awake) fun z7 =>
 .leaf z7) (
 .leaf false)) (
 .leaf false)) (
 .ite (decide (z6.Low ≤ z5.Low)) (
 .ite (decide (z6.High ≤ z5.High)) (
 .bind (law10_awake) fun z8 =>
 .leaf z8) (
 .leaf false)) (
 .leaf false)))) (
 .fail)) (
 .fail)) (
 .fail)
noncomputable def law10_BalanceRises_m : FnM := flM ((Sq Int) × Int × Int × Int) (Bool) (fun p => ([sqA 1 (eI .u8) p.1, .int .i64 p.2.1, .int .i64 p.2.2.1, .int .u16 p.2.2.2], [])) (fun p => law10_BalanceRises_t p.1 p.2.1 p.2.2.1 p.2.2.2) (fun r => .bool r) (fun _ => rfl)
noncomputable def law10_BalanceRises_env : Env := envM [(9, New_m.c), (10, Codes_Made_m.c), (11, law10_around_m.c), (13, Mod_m.c), (14, balance_Net_m.c), (16, law10_awake_m.c)] [] [] [(3, [.freeze 320, .freeze 321, .freeze 322, .freeze 323])] [] 0
theorem law10_BalanceRises_tells : Tells Try.prog 5 law10_BalanceRises_m.c := law10_BalanceRises_m.tells Try.func5 (show ∀ p, arun law10_BalanceRises_env Try.f5 (law10_BalanceRises_m.enc p).1 (law10_BalanceRises_m.enc p).2 = _ from fun p => by kernel_rfl) noLoops (.cons New_tells (.cons Codes_Made_tells (.cons law10_around_tells (.cons Mod_tells (.cons balance_Net_tells (.cons law10_awake_tells .nil))))))
noncomputable def law10_BalanceRises (codes : Sq Int) (place other more : Int) : Option (Bool) := law10_BalanceRises_m.val (codes, place, other, more)
theorem law10_BalanceRises_eq (codes : Sq Int) (place other more : Int) : law10_BalanceRises codes place other more = (law10_BalanceRises_t codes place other more).get := law10_BalanceRises_m.val_eq (fun x => (sqD dI (gd x.1 0), intA (gd x.1 1), intA (gd x.1 2), intA (gd x.1 3))) (fun p => by kernel_rfl) (codes, place, other, more)
theorem law10_BalanceRises_inj : ∀ a b, law10_BalanceRises_m.enc a = law10_BalanceRises_m.enc b → a = b := linj (fun x => (sqD dI (gd x.1 0), intA (gd x.1 1), intA (gd x.1 2), intA (gd x.1 3))) (fun p => by kernel_rfl)

/-! minecontrol/minecontrollaw10.BalanceHolds -/
noncomputable def law10_BalanceHolds_l4_step (_u4_0 : Int) (_u4_2 : Sq Int) (_u4_3 : Int) (u4_4 : Sq SPlace) (u4_5 : Sq SRoad) (u4_6 : Sq SFan) (u4_7 : Sq SDoor) (u4_8 u4_9 u4_10 _u4_11 : Sq Int) (u4_12 : Int) : DT (LR (Int) (Unit) (Unit)) :=
 .ite (decide (u4_12 < ((u4_4.n : Nat) : Int))) (
 .ite (decide ((0 : Int) ≤ u4_12 ∧ u4_12 < ((u4_4.n : Nat) : Int))) (
 .bind (balance_Net (SAir.mk (SMine.mk u4_4 u4_5) u4_6 u4_7) (SSetting.mk u4_8 u4_9) u4_10 u4_12) fun z0 =>
 .ite (!(u4_4.f (Int.toNat u4_12)).Surface) (
 .ite (decide (z0.Low > (0 : Int))) (
 .leaf (.r ())) (
 .ite (decide (z0.High < (0 : Int))) (
 .leaf (.r ())) (
 .leaf (.next (wr (u4_12 + (1 : Int))))))) (
 .leaf (.next (wr (u4_12 + (1 : Int)))))) (
 .fail)) (
 .leaf (.l ()))
noncomputable def law10_BalanceHolds_l4_m : LpM := ⟨Int × (Sq Int) × Int × (Sq SPlace) × (Sq SRoad) × (Sq SFan) × (Sq SDoor) × (Sq Int) × (Sq Int) × (Sq Int) × (Sq Int), Int, Unit, Unit, fun p => ⟨[(1, .int .i64 p.1.1), (5, .ptr 128 0), (6, .ptr 640 0), (7, .ptr 704 0), (8, .ptr 768 0), (28, .own 320 0), (29, .int .i64 ((p.1.2.2.2.1.n : Nat) : Int)), (30, .int .i64 p.2)], [(128, .var [sqA 1 (eI .u8) p.1.2.1, .int .i64 p.1.2.2.1]), (320, rowA 0 2 54 SPlace.enc p.1.2.2.2.1), (321, rowA 0 10 60 SRoad.enc p.1.2.2.2.2.1), (322, rowA 0 4 83 SFan.enc p.1.2.2.2.2.2.1), (323, rowA 0 3 72 SDoor.enc p.1.2.2.2.2.2.2.1), (324, rowA 0 1 3 (eI .i64) p.1.2.2.2.2.2.2.2.1), (325, rowA 0 1 3 (eI .i64) p.1.2.2.2.2.2.2.2.2.1), (640, .var [.own 320 0, .own 321 0, .own 322 0, .own 323 0]), (704, .var [.own 324 0, .own 325 0]), (768, .var [sqA 1 (eI .i64) p.1.2.2.2.2.2.2.2.2.2.1, sqA 1 (eI .i64) p.1.2.2.2.2.2.2.2.2.2.2])], 1344⟩, fun f v => law10_BalanceHolds_l4_step f.1 f.2.1 f.2.2.1 f.2.2.2.1 f.2.2.2.2.1 f.2.2.2.2.2.1 f.2.2.2.2.2.2.1 f.2.2.2.2.2.2.2.1 f.2.2.2.2.2.2.2.2.1 f.2.2.2.2.2.2.2.2.2.1 f.2.2.2.2.2.2.2.2.2.2 v, false, (.exit 0), (fun x _ => ⟨[(1, aget x.tm 1), (4, .undef), (5, .ptr 128 0), (6, .ptr 640 0), (7, .ptr 704 0), (8, .ptr 768 0)], [(128, blkS x 128), (320, blkS x 320), (321, blkS x 321), (322, blkS x 322), (323, blkS x 323), (324, blkS x 324), (325, blkS x 325), (640, .var [.own 320 0, .own 321 0, .own 322 0, .own 323 0]), (704, .var [.own 324 0, .own 325 0]), (768, blkS x 768)], 1344⟩), .ret, (fun x _ => ⟨[(1, aget x.tm 1), (4, .bool false), (5, .ptr 128 0), (6, .ptr 640 0), (7, .ptr 704 0), (8, .ptr 768 0)], [(128, blkS x 128), (320, blkS x 320), (321, blkS x 321), (322, blkS x 322), (323, blkS x 323), (324, blkS x 324), (325, blkS x 325), (640, .var [.own 320 0, .own 321 0, .own 322 0, .own 323 0]), (704, .var [.own 324 0, .own 325 0]), (768, blkS x 768)], 1344⟩)⟩
noncomputable def law10_BalanceHolds_l4 (u4_0 : Int) (u4_2 : Sq Int) (u4_3 : Int) (u4_4 : Sq SPlace) (u4_5 : Sq SRoad) (u4_6 : Sq SFan) (u4_7 : Sq SDoor) (u4_8 u4_9 u4_10 u4_11 : Sq Int) (u4_12 : Int) : Option ((Unit) ⊕ (Unit)) := law10_BalanceHolds_l4_m.val ((u4_0, u4_2, u4_3, u4_4, u4_5, u4_6, u4_7, u4_8, u4_9, u4_10, u4_11), u4_12)
theorem law10_BalanceHolds_l4_eq (u4_0 : Int) (u4_2 : Sq Int) (u4_3 : Int) (u4_4 : Sq SPlace) (u4_5 : Sq SRoad) (u4_6 : Sq SFan) (u4_7 : Sq SDoor) (u4_8 u4_9 u4_10 u4_11 : Sq Int) (u4_12 : Int) : law10_BalanceHolds_l4 u4_0 u4_2 u4_3 u4_4 u4_5 u4_6 u4_7 u4_8 u4_9 u4_10 u4_11 u4_12 = fixO (fun v : Int => law10_BalanceHolds_l4_step u4_0 u4_2 u4_3 u4_4 u4_5 u4_6 u4_7 u4_8 u4_9 u4_10 u4_11 v) u4_12 := law10_BalanceHolds_l4_m.val_eq (fun x => ((intA (aget x.tm 1), sqD dI (cellS x 128 0), intA (cellS x 128 1), sqB SPlace.dec (blkS x 320), sqB SRoad.dec (blkS x 321), sqB SFan.dec (blkS x 322), sqB SDoor.dec (blkS x 323), sqB dI (blkS x 324), sqB dI (blkS x 325), sqD dI (cellS x 768 0), sqD dI (cellS x 768 1)), intA (aget x.tm 30))) (fun p => by kernel_rfl) ((u4_0, u4_2, u4_3, u4_4, u4_5, u4_6, u4_7, u4_8, u4_9, u4_10, u4_11), u4_12)
noncomputable def law10_BalanceHolds_t (codes : Sq Int) (place : Int) : DT (Bool) :=
 .bind (New codes) fun z1 =>
 .bind (Codes_Made z1) fun z2 =>
 .sum (law10_BalanceHolds_l4 place z1.l_ z2.2.2.2 z2.1.Mine.Places z2.1.Mine.Roads z2.1.Fans z2.1.Doors z2.2.1.Fans z2.2.1.Doors z2.2.2.1.Pressures z2.2.2.1.Flows (0 : Int)) (fun _ =>
 .bind (law10_around (SCodes.mk z1.l_ z2.2.2.2) z2.1 z2.2.2.1) fun z3 =>
 .bind (Mod place ((z3.1.n : Nat) : Int)) fun z4 =>
 .bind (balance_Least_v2 z2.1 z2.2.1 z3.1 z4) fun z5 =>
 .ite (!z5.2) (
 .ite (!z5.2) (
 .ite (((z2.1.Mine.Roads.n : Nat) : Int) == (0 : Int)) (
 .leaf true) (
 .ite (!z5.2) (
 .bind (law10_awake) fun z6 =>
 .ite z6 (
 .bind (law10_top z3.1 z4) fun z7 =>
 .bind (balance_Net z2.1 z2.2.1 z7 z4) fun z8 =>
 .leaf (decide (z8.Low < (0 : Int)))) (
 .leaf false)) (
 .leaf false))) (
 .ite (!z5.2) (
 .bind (law10_awake) fun z9 =>
 .ite z9 (
 .bind (law10_top z3.1 z4) fun z10 =>
 .bind (balance_Net z2.1 z2.2.1 z10 z4) fun z11 =>
 .leaf (decide (z11.Low < (0 : Int)))) (
 .leaf false)) (
 .leaf false))) (
 .ite (decide ((0 : Int) ≤ z4 ∧ z4 < ((z3.1.n : Nat) : Int))) (
 .ite (decide (z5.1 < (z3.1.f (Int.toNat z4)))) (
 .ite (!z5.2) (
 .ite (((z2.1.Mine.Roads.n : Nat) : Int) == (0 : Int)) (
 .leaf true) (
 .ite (!z5.2) (
 .bind (law10_awake) fun z12 =>
 .ite z12 (
 .bind (law10_top z3.1 z4) fun z13 =>
 .bind (balance_Net z2.1 z2.2.1 z13 z4) fun z14 =>
 .leaf (decide (z14.Low < (0 : Int)))) (
 .leaf false)) (
 .leaf false))) (
 .ite (!z5.2) (
 .bind (law10_awake) fun z15 =>
 .ite z15 (
 .bind (law10_top z3.1 z4) fun z16 =>
 .bind (balance_Net z2.1 z2.2.1 z16 z4) fun z17 =>
 .leaf (decide (z17.Low < (0 : Int)))) (
 .leaf false)) (
 .leaf false))) (
 .ite (decide (z3.1.n * 8 ≤ 140737488355328 ∧ z3.1.n ≤ 1099511627776)) (
 .ite (decide (z3.1.n * 8 ≤ 140737488355328 ∧ z3.1.n ≤ 1099511627776)) (
 .ite (decide ((0 : Int) ≤ z4 ∧ z4 < ((z3.1.n : Nat) : Int))) (
 .ite (decide ((0 : Int) ≤ z4 ∧ z4 < ((z3.1.n : Nat) : Int))) (
 .bind (balance_Net z2.1 z2.2.1 (Sq.mk z3.1.n (fun k0 => (cond (Nat.beq k0 (Int.toNat z4)) z5.1 (z3.1.f k0)))) z4) fun z18 =>
 .ite (decide (z18.Low ≥ (0 : Int))) (
 .ite (decide ((0 : Int) ≤ z4 ∧ z4 < ((z3.1.n : Nat) : Int))) (
 .ite (z5.1 == (z3.1.f (Int.toNat z4))) (
 .bind (law10_awake) fun z19 =>
 .leaf z19) (
 .bind (balance_Net z2.1 z2.2.1 (Sq.mk z3.1.n (fun k1 => (cond (Nat.beq k1 (Int.toNat z4)) (wr (z5.1 - (1 : Int))) (z3.1.f k1)))) z4) fun z20 =>
 .ite (decide (z20.Low < (0 : Int))) (
 .bind (law10_awake) fun z21 =>
 .leaf z21) (
 .leaf false))) (
 .fail)) (
 .leaf false)) (
 .fail)) (
 .fail)) (
 .fail)) (
 .fail))) (
 .fail))) (fun _ => .leaf false)
noncomputable def law10_BalanceHolds_m : FnM := flM ((Sq Int) × Int) (Bool) (fun p => ([sqA 1 (eI .u8) p.1, .int .i64 p.2], [])) (fun p => law10_BalanceHolds_t p.1 p.2) (fun r => .bool r) (fun _ => rfl)
noncomputable def law10_BalanceHolds_env : Env := envM [(9, New_m.c), (10, Codes_Made_m.c), (14, balance_Net_m.c), (11, law10_around_m.c), (13, Mod_m.c), (17, balance_Least_v2_m.c), (16, law10_awake_m.c), (21, law10_top_m.c)] [(4, [1, 5, 6, 7, 8, 28, 29, 30], [1, 4, 5, 6, 7, 8])] [(4, law10_BalanceHolds_l4_m.c)] [(10, [.freeze 320, .freeze 321, .freeze 322, .freeze 323]), (14, [.freeze 1536])] [(4, [128, 320, 321, 322, 323, 324, 325, 640, 704, 768])] 0
noncomputable def law10_BalanceHolds_e : Env := { law10_BalanceHolds_env with nt := 148 }
theorem law10_BalanceHolds_l4_tells : LoopTells law10_BalanceHolds_e (loopOf 4 Try.f6) law10_BalanceHolds_l4_m.c := law10_BalanceHolds_l4_m.tells 1344 (fun _ => by kernel_rfl) (fun _ _ _ _ => by kernel_rfl) (fun _ _ _ _ => by kernel_rfl) fun R f v N K => by kernel_rfl
theorem law10_BalanceHolds_tells : Tells Try.prog 6 law10_BalanceHolds_m.c := law10_BalanceHolds_m.tells Try.func6 (show ∀ p, arun law10_BalanceHolds_env Try.f6 (law10_BalanceHolds_m.enc p).1 (law10_BalanceHolds_m.enc p).2 = _ from fun p => by kernel_rfl) (loopsL [loopOf 4 Try.f6] (by kernel_rfl) ⟨lpT (by kernel_rfl) law10_BalanceHolds_l4_tells, trivial⟩) (.cons New_tells (.cons Codes_Made_tells (.cons balance_Net_tells (.cons law10_around_tells (.cons Mod_tells (.cons balance_Least_v2_tells (.cons law10_awake_tells (.cons law10_top_tells .nil))))))))
noncomputable def law10_BalanceHolds (codes : Sq Int) (place : Int) : Option (Bool) := law10_BalanceHolds_m.val (codes, place)
theorem law10_BalanceHolds_eq (codes : Sq Int) (place : Int) : law10_BalanceHolds codes place = (law10_BalanceHolds_t codes place).get := law10_BalanceHolds_m.val_eq (fun x => (sqD dI (gd x.1 0), intA (gd x.1 1))) (fun p => by kernel_rfl) (codes, place)
theorem law10_BalanceHolds_inj : ∀ a b, law10_BalanceHolds_m.enc a = law10_BalanceHolds_m.enc b → a = b := linj (fun x => (sqD dI (gd x.1 0), intA (gd x.1 1))) (fun p => by kernel_rfl)

/-! minecontrol/minecontrollaw10.BalanceSums -/
noncomputable def law10_BalanceSums_l6_step (u6_1 u6_2 : Sq Int) (u6_3 : Sq SPlace) (u6_4 : Sq SRoad) (u6_5 : Sq SFan) (u6_6 : Sq SDoor) (u6_7 : Sq Int) (u6_8 u6_9 u6_10 : Int) : DT (LR (Int × Int × Int) (Int × Int) (Unit)) :=
 .ite (decide (u6_8 < ((u6_7.n : Nat) : Int))) (
 .bind (balance_Net (SAir.mk (SMine.mk u6_3 u6_4) u6_5 u6_6) (SSetting.mk u6_1 u6_2) u6_7 u6_8) fun z0 =>
 .leaf (.next ((wr (u6_8 + (1 : Int))), (wr (u6_9 + z0.Low)), (wr (u6_10 + z0.High))))) (
 .leaf (.l (u6_9, u6_10)))
noncomputable def law10_BalanceSums_l6_m : LpM := ⟨(Sq Int) × (Sq Int) × (Sq SPlace) × (Sq SRoad) × (Sq SFan) × (Sq SDoor) × (Sq Int), Int × Int × Int, Int × Int, Unit, fun p => ⟨[(4, .ptr 640 0), (5, .ptr 704 0), (7, .own 1216 0), (8, .ptr 1408 0), (25, .int .i64 ((p.1.2.2.2.2.2.2.n : Nat) : Int)), (26, .int .i64 p.2.1)], [(324, rowA 0 1 3 (eI .i64) p.1.1), (325, rowA 0 1 3 (eI .i64) p.1.2.1), (640, .var [sqA 2 SPlace.enc p.1.2.2.1, sqA 10 SRoad.enc p.1.2.2.2.1, sqA 4 SFan.enc p.1.2.2.2.2.1, sqA 3 SDoor.enc p.1.2.2.2.2.2.1]), (704, .var [.own 324 0, .own 325 0]), (1216, rowA 0 1 3 (eI .i64) p.1.2.2.2.2.2.2), (1408, .var [.int .i64 p.2.2.1, .int .i64 p.2.2.2])], 1728⟩, fun f v => law10_BalanceSums_l6_step f.1 f.2.1 f.2.2.1 f.2.2.2.1 f.2.2.2.2.1 f.2.2.2.2.2.1 f.2.2.2.2.2.2 v.1 v.2.1 v.2.2, true, (.exit 0), (fun x a => ⟨[(8, .ptr 1408 0)], [(324, blkS x 324), (325, blkS x 325), (640, blkS x 640), (704, .var [.own 324 0, .own 325 0]), (1216, blkS x 1216), (1408, .var [.int .i64 a.1, .int .i64 a.2])], 1728⟩), .ret, (fun _ _ => ⟨[], [], 0⟩)⟩
noncomputable def law10_BalanceSums_l6 (u6_1 u6_2 : Sq Int) (u6_3 : Sq SPlace) (u6_4 : Sq SRoad) (u6_5 : Sq SFan) (u6_6 : Sq SDoor) (u6_7 : Sq Int) (u6_8 u6_9 u6_10 : Int) : Option ((Int × Int) ⊕ (Unit)) := law10_BalanceSums_l6_m.val ((u6_1, u6_2, u6_3, u6_4, u6_5, u6_6, u6_7), (u6_8, u6_9, u6_10))
theorem law10_BalanceSums_l6_eq (u6_1 u6_2 : Sq Int) (u6_3 : Sq SPlace) (u6_4 : Sq SRoad) (u6_5 : Sq SFan) (u6_6 : Sq SDoor) (u6_7 : Sq Int) (u6_8 u6_9 u6_10 : Int) : law10_BalanceSums_l6 u6_1 u6_2 u6_3 u6_4 u6_5 u6_6 u6_7 u6_8 u6_9 u6_10 = fixO (fun v : Int × Int × Int => law10_BalanceSums_l6_step u6_1 u6_2 u6_3 u6_4 u6_5 u6_6 u6_7 v.1 v.2.1 v.2.2) (u6_8, u6_9, u6_10) := law10_BalanceSums_l6_m.val_eq (fun x => ((sqB dI (blkS x 324), sqB dI (blkS x 325), sqD SPlace.dec (cellS x 640 0), sqD SRoad.dec (cellS x 640 1), sqD SFan.dec (cellS x 640 2), sqD SDoor.dec (cellS x 640 3), sqB dI (blkS x 1216)), (intA (aget x.tm 26), intA (cellS x 1408 0), intA (cellS x 1408 1)))) (fun p => by kernel_rfl) ((u6_1, u6_2, u6_3, u6_4, u6_5, u6_6, u6_7), (u6_8, u6_9, u6_10))
noncomputable def law10_BalanceSums_t (codes : Sq Int) : DT (Bool) :=
 .bind (New codes) fun z1 =>
 .bind (Codes_Made z1) fun z2 =>
 .bind (law10_around (SCodes.mk z1.l_ z2.2.2.2) z2.1 z2.2.2.1) fun z3 =>
 .sum (law10_BalanceSums_l6 z2.2.1.Fans z2.2.1.Doors z2.1.Mine.Places z2.1.Mine.Roads z2.1.Fans z2.1.Doors z3.1 (0 : Int) (0 : Int) (0 : Int)) (fun y0 =>
 .ite (decide (y0.1 ≤ (0 : Int))) (
 .ite (decide (y0.2 ≥ (0 : Int))) (
 .bind (law10_awake) fun z4 =>
 .leaf z4) (
 .leaf false)) (
 .leaf false)) (fun _ => .fail)
noncomputable def law10_BalanceSums_m : FnM := flM ((Sq Int)) (Bool) (fun p => ([sqA 1 (eI .u8) p], [])) (fun p => law10_BalanceSums_t p) (fun r => .bool r) (fun _ => rfl)
noncomputable def law10_BalanceSums_env : Env := envM [(9, New_m.c), (10, Codes_Made_m.c), (11, law10_around_m.c), (14, balance_Net_m.c), (16, law10_awake_m.c)] [(6, [4, 5, 7, 8, 25, 26], [8])] [(6, law10_BalanceSums_l6_m.c)] [(3, [.freeze 320, .freeze 321, .freeze 322, .freeze 323])] [(6, [324, 325, 640, 704, 1216, 1408])] 0
noncomputable def law10_BalanceSums_e : Env := { law10_BalanceSums_env with nt := 58 }
theorem law10_BalanceSums_l6_tells : LoopTells law10_BalanceSums_e (loopOf 6 Try.f7) law10_BalanceSums_l6_m.c := law10_BalanceSums_l6_m.tells 1728 (fun _ => by kernel_rfl) (fun _ _ _ _ => by kernel_rfl) (fun _ _ _ _ => by kernel_rfl) fun R f v N K => by kernel_rfl
theorem law10_BalanceSums_tells : Tells Try.prog 7 law10_BalanceSums_m.c := law10_BalanceSums_m.tells Try.func7 (show ∀ p, arun law10_BalanceSums_env Try.f7 (law10_BalanceSums_m.enc p).1 (law10_BalanceSums_m.enc p).2 = _ from fun p => by kernel_rfl) (loopsL [loopOf 6 Try.f7] (by kernel_rfl) ⟨lpT (by kernel_rfl) law10_BalanceSums_l6_tells, trivial⟩) (.cons New_tells (.cons Codes_Made_tells (.cons law10_around_tells (.cons balance_Net_tells (.cons law10_awake_tells .nil)))))
noncomputable def law10_BalanceSums (codes : Sq Int) : Option (Bool) := law10_BalanceSums_m.val codes
theorem law10_BalanceSums_eq (codes : Sq Int) : law10_BalanceSums codes = (law10_BalanceSums_t codes).get := law10_BalanceSums_m.val_eq (fun x => sqD dI (gd x.1 0)) (fun p => by kernel_rfl) codes
theorem law10_BalanceSums_inj : ∀ a b, law10_BalanceSums_m.enc a = law10_BalanceSums_m.enc b → a = b := linj (fun x => sqD dI (gd x.1 0)) (fun p => by kernel_rfl)

/-! minecontrol/minecontrollaw10.BalanceNarrows -/
noncomputable def law10_BalanceNarrows_l7_step (u7_0 _u7_1 : Int) (_u7_3 _u7_4 : Sq Int) (_u7_5 : Sq SPlace) (u7_6 : Sq SRoad) (_u7_7 : Sq SFan) (_u7_8 : Sq SDoor) (_u7_9 : Sq Int) (u7_10 : Int) (u7_11 : Sq SRoad) : DT (LR (Int × (Sq SRoad)) ((Sq SRoad)) (Unit)) :=
 .ite (decide (u7_10 < ((u7_6.n : Nat) : Int))) (
 .ite (decide ((0 : Int) ≤ u7_10 ∧ u7_10 < ((u7_11.n : Nat) : Int))) (
 .leaf (.next ((wr (u7_10 + (1 : Int))), (Sq.mk u7_11.n (fun k0 => (SRoad.mk (cond (Nat.beq k0 (Int.toNat u7_10)) (cond (Nat.beq (Int.toNat u7_10) (Int.toNat u7_10)) (cond (Nat.beq (Int.toNat u7_10) (Int.toNat u7_10)) (cond (Nat.beq (Int.toNat u7_10) (Int.toNat u7_10)) (u7_11.f (Int.toNat u7_10)).From (u7_11.f (Int.toNat u7_10)).From) (cond (Nat.beq (Int.toNat u7_10) (Int.toNat u7_10)) (u7_11.f (Int.toNat u7_10)).From (u7_11.f (Int.toNat u7_10)).From)) (cond (Nat.beq (Int.toNat u7_10) (Int.toNat u7_10)) (cond (Nat.beq (Int.toNat u7_10) (Int.toNat u7_10)) (u7_11.f (Int.toNat u7_10)).From (u7_11.f (Int.toNat u7_10)).From) (cond (Nat.beq (Int.toNat u7_10) (Int.toNat u7_10)) (u7_11.f (Int.toNat u7_10)).From (u7_11.f (Int.toNat u7_10)).From))) (cond (Nat.beq k0 (Int.toNat u7_10)) (cond (Nat.beq (Int.toNat u7_10) (Int.toNat u7_10)) (cond (Nat.beq (Int.toNat u7_10) (Int.toNat u7_10)) (u7_11.f (Int.toNat u7_10)).From (u7_11.f (Int.toNat u7_10)).From) (cond (Nat.beq (Int.toNat u7_10) (Int.toNat u7_10)) (u7_11.f (Int.toNat u7_10)).From (u7_11.f (Int.toNat u7_10)).From)) (cond (Nat.beq k0 (Int.toNat u7_10)) (cond (Nat.beq (Int.toNat u7_10) (Int.toNat u7_10)) (u7_11.f (Int.toNat u7_10)).From (u7_11.f (Int.toNat u7_10)).From) (cond (Nat.beq k0 (Int.toNat u7_10)) (u7_11.f (Int.toNat u7_10)).From (u7_11.f k0).From)))) (cond (Nat.beq k0 (Int.toNat u7_10)) (cond (Nat.beq (Int.toNat u7_10) (Int.toNat u7_10)) (cond (Nat.beq (Int.toNat u7_10) (Int.toNat u7_10)) (cond (Nat.beq (Int.toNat u7_10) (Int.toNat u7_10)) (u7_11.f (Int.toNat u7_10)).To (u7_11.f (Int.toNat u7_10)).To) (cond (Nat.beq (Int.toNat u7_10) (Int.toNat u7_10)) (u7_11.f (Int.toNat u7_10)).To (u7_11.f (Int.toNat u7_10)).To)) (cond (Nat.beq (Int.toNat u7_10) (Int.toNat u7_10)) (cond (Nat.beq (Int.toNat u7_10) (Int.toNat u7_10)) (u7_11.f (Int.toNat u7_10)).To (u7_11.f (Int.toNat u7_10)).To) (cond (Nat.beq (Int.toNat u7_10) (Int.toNat u7_10)) (u7_11.f (Int.toNat u7_10)).To (u7_11.f (Int.toNat u7_10)).To))) (cond (Nat.beq k0 (Int.toNat u7_10)) (cond (Nat.beq (Int.toNat u7_10) (Int.toNat u7_10)) (cond (Nat.beq (Int.toNat u7_10) (Int.toNat u7_10)) (u7_11.f (Int.toNat u7_10)).To (u7_11.f (Int.toNat u7_10)).To) (cond (Nat.beq (Int.toNat u7_10) (Int.toNat u7_10)) (u7_11.f (Int.toNat u7_10)).To (u7_11.f (Int.toNat u7_10)).To)) (cond (Nat.beq k0 (Int.toNat u7_10)) (cond (Nat.beq (Int.toNat u7_10) (Int.toNat u7_10)) (u7_11.f (Int.toNat u7_10)).To (u7_11.f (Int.toNat u7_10)).To) (cond (Nat.beq k0 (Int.toNat u7_10)) (u7_11.f (Int.toNat u7_10)).To (u7_11.f k0).To)))) (cond (Nat.beq k0 (Int.toNat u7_10)) (cond (Nat.beq (Int.toNat u7_10) (Int.toNat u7_10)) (cond (Nat.beq (Int.toNat u7_10) (Int.toNat u7_10)) (cond (Nat.beq (Int.toNat u7_10) (Int.toNat u7_10)) (u7_11.f (Int.toNat u7_10)).Length (u7_11.f (Int.toNat u7_10)).Length) (cond (Nat.beq (Int.toNat u7_10) (Int.toNat u7_10)) (u7_11.f (Int.toNat u7_10)).Length (u7_11.f (Int.toNat u7_10)).Length)) (cond (Nat.beq (Int.toNat u7_10) (Int.toNat u7_10)) (cond (Nat.beq (Int.toNat u7_10) (Int.toNat u7_10)) (u7_11.f (Int.toNat u7_10)).Length (u7_11.f (Int.toNat u7_10)).Length) (cond (Nat.beq (Int.toNat u7_10) (Int.toNat u7_10)) (u7_11.f (Int.toNat u7_10)).Length (u7_11.f (Int.toNat u7_10)).Length))) (cond (Nat.beq k0 (Int.toNat u7_10)) (cond (Nat.beq (Int.toNat u7_10) (Int.toNat u7_10)) (cond (Nat.beq (Int.toNat u7_10) (Int.toNat u7_10)) (u7_11.f (Int.toNat u7_10)).Length (u7_11.f (Int.toNat u7_10)).Length) (cond (Nat.beq (Int.toNat u7_10) (Int.toNat u7_10)) (u7_11.f (Int.toNat u7_10)).Length (u7_11.f (Int.toNat u7_10)).Length)) (cond (Nat.beq k0 (Int.toNat u7_10)) (cond (Nat.beq (Int.toNat u7_10) (Int.toNat u7_10)) (u7_11.f (Int.toNat u7_10)).Length (u7_11.f (Int.toNat u7_10)).Length) (cond (Nat.beq k0 (Int.toNat u7_10)) (u7_11.f (Int.toNat u7_10)).Length (u7_11.f k0).Length)))) (cond (Nat.beq k0 (Int.toNat u7_10)) (cond (Nat.beq (Int.toNat u7_10) (Int.toNat u7_10)) (cond (Nat.beq (Int.toNat u7_10) (Int.toNat u7_10)) (cond (Nat.beq (Int.toNat u7_10) (Int.toNat u7_10)) (u7_11.f (Int.toNat u7_10)).Area (u7_11.f (Int.toNat u7_10)).Area) (cond (Nat.beq (Int.toNat u7_10) (Int.toNat u7_10)) (u7_11.f (Int.toNat u7_10)).Area (u7_11.f (Int.toNat u7_10)).Area)) (cond (Nat.beq (Int.toNat u7_10) (Int.toNat u7_10)) (cond (Nat.beq (Int.toNat u7_10) (Int.toNat u7_10)) (u7_11.f (Int.toNat u7_10)).Area (u7_11.f (Int.toNat u7_10)).Area) (cond (Nat.beq (Int.toNat u7_10) (Int.toNat u7_10)) (u7_11.f (Int.toNat u7_10)).Area (u7_11.f (Int.toNat u7_10)).Area))) (cond (Nat.beq k0 (Int.toNat u7_10)) (cond (Nat.beq (Int.toNat u7_10) (Int.toNat u7_10)) (cond (Nat.beq (Int.toNat u7_10) (Int.toNat u7_10)) (u7_11.f (Int.toNat u7_10)).Area (u7_11.f (Int.toNat u7_10)).Area) (cond (Nat.beq (Int.toNat u7_10) (Int.toNat u7_10)) (u7_11.f (Int.toNat u7_10)).Area (u7_11.f (Int.toNat u7_10)).Area)) (cond (Nat.beq k0 (Int.toNat u7_10)) (cond (Nat.beq (Int.toNat u7_10) (Int.toNat u7_10)) (u7_11.f (Int.toNat u7_10)).Area (u7_11.f (Int.toNat u7_10)).Area) (cond (Nat.beq k0 (Int.toNat u7_10)) (u7_11.f (Int.toNat u7_10)).Area (u7_11.f k0).Area)))) (cond (Nat.beq k0 (Int.toNat u7_10)) (cond (Nat.beq (Int.toNat u7_10) (Int.toNat u7_10)) (cond (Nat.beq (Int.toNat u7_10) (Int.toNat u7_10)) (cond (Nat.beq (Int.toNat u7_10) (Int.toNat u7_10)) (u7_11.f (Int.toNat u7_10)).Walk (u7_11.f (Int.toNat u7_10)).Walk) (cond (Nat.beq (Int.toNat u7_10) (Int.toNat u7_10)) (u7_11.f (Int.toNat u7_10)).Walk (u7_11.f (Int.toNat u7_10)).Walk)) (cond (Nat.beq (Int.toNat u7_10) (Int.toNat u7_10)) (cond (Nat.beq (Int.toNat u7_10) (Int.toNat u7_10)) (u7_11.f (Int.toNat u7_10)).Walk (u7_11.f (Int.toNat u7_10)).Walk) (cond (Nat.beq (Int.toNat u7_10) (Int.toNat u7_10)) (u7_11.f (Int.toNat u7_10)).Walk (u7_11.f (Int.toNat u7_10)).Walk))) (cond (Nat.beq k0 (Int.toNat u7_10)) (cond (Nat.beq (Int.toNat u7_10) (Int.toNat u7_10)) (cond (Nat.beq (Int.toNat u7_10) (Int.toNat u7_10)) (u7_11.f (Int.toNat u7_10)).Walk (u7_11.f (Int.toNat u7_10)).Walk) (cond (Nat.beq (Int.toNat u7_10) (Int.toNat u7_10)) (u7_11.f (Int.toNat u7_10)).Walk (u7_11.f (Int.toNat u7_10)).Walk)) (cond (Nat.beq k0 (Int.toNat u7_10)) (cond (Nat.beq (Int.toNat u7_10) (Int.toNat u7_10)) (u7_11.f (Int.toNat u7_10)).Walk (u7_11.f (Int.toNat u7_10)).Walk) (cond (Nat.beq k0 (Int.toNat u7_10)) (u7_11.f (Int.toNat u7_10)).Walk (u7_11.f k0).Walk)))) (cond (Nat.beq k0 (Int.toNat u7_10)) (cond (Nat.beq (Int.toNat u7_10) (Int.toNat u7_10)) (cond (Nat.beq (Int.toNat u7_10) (Int.toNat u7_10)) (cond (Nat.beq (Int.toNat u7_10) (Int.toNat u7_10)) (u7_11.f (Int.toNat u7_10)).Closed (u7_11.f (Int.toNat u7_10)).Closed) (cond (Nat.beq (Int.toNat u7_10) (Int.toNat u7_10)) (u7_11.f (Int.toNat u7_10)).Closed (u7_11.f (Int.toNat u7_10)).Closed)) (cond (Nat.beq (Int.toNat u7_10) (Int.toNat u7_10)) (cond (Nat.beq (Int.toNat u7_10) (Int.toNat u7_10)) (u7_11.f (Int.toNat u7_10)).Closed (u7_11.f (Int.toNat u7_10)).Closed) (cond (Nat.beq (Int.toNat u7_10) (Int.toNat u7_10)) (u7_11.f (Int.toNat u7_10)).Closed (u7_11.f (Int.toNat u7_10)).Closed))) (cond (Nat.beq k0 (Int.toNat u7_10)) (cond (Nat.beq (Int.toNat u7_10) (Int.toNat u7_10)) (cond (Nat.beq (Int.toNat u7_10) (Int.toNat u7_10)) (u7_11.f (Int.toNat u7_10)).Closed (u7_11.f (Int.toNat u7_10)).Closed) (cond (Nat.beq (Int.toNat u7_10) (Int.toNat u7_10)) (u7_11.f (Int.toNat u7_10)).Closed (u7_11.f (Int.toNat u7_10)).Closed)) (cond (Nat.beq k0 (Int.toNat u7_10)) (cond (Nat.beq (Int.toNat u7_10) (Int.toNat u7_10)) (u7_11.f (Int.toNat u7_10)).Closed (u7_11.f (Int.toNat u7_10)).Closed) (cond (Nat.beq k0 (Int.toNat u7_10)) (u7_11.f (Int.toNat u7_10)).Closed (u7_11.f k0).Closed)))) (SSpan.mk (cond (Nat.beq k0 (Int.toNat u7_10)) (cond (Nat.beq (Int.toNat u7_10) (Int.toNat u7_10)) (cond (Nat.beq (Int.toNat u7_10) (Int.toNat u7_10)) (cond (Nat.beq (Int.toNat u7_10) (Int.toNat u7_10)) (if (1 : Int) < (wr ((u7_11.f (Int.toNat u7_10)).Rest.Low - (Int.tmod (wr u7_0) (3 : Int)))) then (wr ((u7_11.f (Int.toNat u7_10)).Rest.Low - (Int.tmod (wr u7_0) (3 : Int)))) else (1 : Int)) (u7_11.f (Int.toNat u7_10)).Rest.Low) (cond (Nat.beq (Int.toNat u7_10) (Int.toNat u7_10)) (if (1 : Int) < (wr ((u7_11.f (Int.toNat u7_10)).Rest.Low - (Int.tmod (wr u7_0) (3 : Int)))) then (wr ((u7_11.f (Int.toNat u7_10)).Rest.Low - (Int.tmod (wr u7_0) (3 : Int)))) else (1 : Int)) (u7_11.f (Int.toNat u7_10)).Rest.Low)) (cond (Nat.beq (Int.toNat u7_10) (Int.toNat u7_10)) (cond (Nat.beq (Int.toNat u7_10) (Int.toNat u7_10)) (if (1 : Int) < (wr ((u7_11.f (Int.toNat u7_10)).Rest.Low - (Int.tmod (wr u7_0) (3 : Int)))) then (wr ((u7_11.f (Int.toNat u7_10)).Rest.Low - (Int.tmod (wr u7_0) (3 : Int)))) else (1 : Int)) (u7_11.f (Int.toNat u7_10)).Rest.Low) (cond (Nat.beq (Int.toNat u7_10) (Int.toNat u7_10)) (if (1 : Int) < (wr ((u7_11.f (Int.toNat u7_10)).Rest.Low - (Int.tmod (wr u7_0) (3 : Int)))) then (wr ((u7_11.f (Int.toNat u7_10)).Rest.Low - (Int.tmod (wr u7_0) (3 : Int)))) else (1 : Int)) (u7_11.f (Int.toNat u7_10)).Rest.Low))) (cond (Nat.beq k0 (Int.toNat u7_10)) (cond (Nat.beq (Int.toNat u7_10) (Int.toNat u7_10)) (cond (Nat.beq (Int.toNat u7_10) (Int.toNat u7_10)) (if (1 : Int) < (wr ((u7_11.f (Int.toNat u7_10)).Rest.Low - (Int.tmod (wr u7_0) (3 : Int)))) then (wr ((u7_11.f (Int.toNat u7_10)).Rest.Low - (Int.tmod (wr u7_0) (3 : Int)))) else (1 : Int)) (u7_11.f (Int.toNat u7_10)).Rest.Low) (cond (Nat.beq (Int.toNat u7_10) (Int.toNat u7_10)) (if (1 : Int) < (wr ((u7_11.f (Int.toNat u7_10)).Rest.Low - (Int.tmod (wr u7_0) (3 : Int)))) then (wr ((u7_11.f (Int.toNat u7_10)).Rest.Low - (Int.tmod (wr u7_0) (3 : Int)))) else (1 : Int)) (u7_11.f (Int.toNat u7_10)).Rest.Low)) (cond (Nat.beq k0 (Int.toNat u7_10)) (cond (Nat.beq (Int.toNat u7_10) (Int.toNat u7_10)) (if (1 : Int) < (wr ((u7_11.f (Int.toNat u7_10)).Rest.Low - (Int.tmod (wr u7_0) (3 : Int)))) then (wr ((u7_11.f (Int.toNat u7_10)).Rest.Low - (Int.tmod (wr u7_0) (3 : Int)))) else (1 : Int)) (u7_11.f (Int.toNat u7_10)).Rest.Low) (cond (Nat.beq k0 (Int.toNat u7_10)) (if (1 : Int) < (wr ((u7_11.f (Int.toNat u7_10)).Rest.Low - (Int.tmod (wr u7_0) (3 : Int)))) then (wr ((u7_11.f (Int.toNat u7_10)).Rest.Low - (Int.tmod (wr u7_0) (3 : Int)))) else (1 : Int)) (u7_11.f k0).Rest.Low)))) (cond (Nat.beq k0 (Int.toNat u7_10)) (cond (Nat.beq (Int.toNat u7_10) (Int.toNat u7_10)) (cond (Nat.beq (Int.toNat u7_10) (Int.toNat u7_10)) (wr ((u7_11.f (Int.toNat u7_10)).Rest.High + (Int.tmod (wr u7_0) (5 : Int)))) (cond (Nat.beq (Int.toNat u7_10) (Int.toNat u7_10)) (u7_11.f (Int.toNat u7_10)).Rest.High (u7_11.f (Int.toNat u7_10)).Rest.High)) (cond (Nat.beq (Int.toNat u7_10) (Int.toNat u7_10)) (wr ((u7_11.f (Int.toNat u7_10)).Rest.High + (Int.tmod (wr u7_0) (5 : Int)))) (cond (Nat.beq (Int.toNat u7_10) (Int.toNat u7_10)) (u7_11.f (Int.toNat u7_10)).Rest.High (u7_11.f (Int.toNat u7_10)).Rest.High))) (cond (Nat.beq k0 (Int.toNat u7_10)) (cond (Nat.beq (Int.toNat u7_10) (Int.toNat u7_10)) (wr ((u7_11.f (Int.toNat u7_10)).Rest.High + (Int.tmod (wr u7_0) (5 : Int)))) (cond (Nat.beq (Int.toNat u7_10) (Int.toNat u7_10)) (u7_11.f (Int.toNat u7_10)).Rest.High (u7_11.f (Int.toNat u7_10)).Rest.High)) (cond (Nat.beq k0 (Int.toNat u7_10)) (wr ((u7_11.f (Int.toNat u7_10)).Rest.High + (Int.tmod (wr u7_0) (5 : Int)))) (cond (Nat.beq k0 (Int.toNat u7_10)) (u7_11.f (Int.toNat u7_10)).Rest.High (u7_11.f k0).Rest.High))))) (SSpan.mk (cond (Nat.beq k0 (Int.toNat u7_10)) (cond (Nat.beq (Int.toNat u7_10) (Int.toNat u7_10)) (wr ((cond (Nat.beq (Int.toNat u7_10) (Int.toNat u7_10)) (cond (Nat.beq (Int.toNat u7_10) (Int.toNat u7_10)) (u7_11.f (Int.toNat u7_10)).Lift.Low (u7_11.f (Int.toNat u7_10)).Lift.Low) (cond (Nat.beq (Int.toNat u7_10) (Int.toNat u7_10)) (u7_11.f (Int.toNat u7_10)).Lift.Low (u7_11.f (Int.toNat u7_10)).Lift.Low)) - (wr u7_0))) (cond (Nat.beq (Int.toNat u7_10) (Int.toNat u7_10)) (cond (Nat.beq (Int.toNat u7_10) (Int.toNat u7_10)) (u7_11.f (Int.toNat u7_10)).Lift.Low (u7_11.f (Int.toNat u7_10)).Lift.Low) (cond (Nat.beq (Int.toNat u7_10) (Int.toNat u7_10)) (u7_11.f (Int.toNat u7_10)).Lift.Low (u7_11.f (Int.toNat u7_10)).Lift.Low))) (cond (Nat.beq k0 (Int.toNat u7_10)) (wr ((cond (Nat.beq (Int.toNat u7_10) (Int.toNat u7_10)) (cond (Nat.beq (Int.toNat u7_10) (Int.toNat u7_10)) (u7_11.f (Int.toNat u7_10)).Lift.Low (u7_11.f (Int.toNat u7_10)).Lift.Low) (cond (Nat.beq (Int.toNat u7_10) (Int.toNat u7_10)) (u7_11.f (Int.toNat u7_10)).Lift.Low (u7_11.f (Int.toNat u7_10)).Lift.Low)) - (wr u7_0))) (cond (Nat.beq k0 (Int.toNat u7_10)) (cond (Nat.beq (Int.toNat u7_10) (Int.toNat u7_10)) (u7_11.f (Int.toNat u7_10)).Lift.Low (u7_11.f (Int.toNat u7_10)).Lift.Low) (cond (Nat.beq k0 (Int.toNat u7_10)) (u7_11.f (Int.toNat u7_10)).Lift.Low (u7_11.f k0).Lift.Low)))) (cond (Nat.beq k0 (Int.toNat u7_10)) (wr ((cond (Nat.beq (Int.toNat u7_10) (Int.toNat u7_10)) (cond (Nat.beq (Int.toNat u7_10) (Int.toNat u7_10)) (u7_11.f (Int.toNat u7_10)).Lift.High (u7_11.f (Int.toNat u7_10)).Lift.High) (cond (Nat.beq (Int.toNat u7_10) (Int.toNat u7_10)) (u7_11.f (Int.toNat u7_10)).Lift.High (u7_11.f (Int.toNat u7_10)).Lift.High)) + (Int.tmod (wr u7_0) (7 : Int)))) (cond (Nat.beq k0 (Int.toNat u7_10)) (cond (Nat.beq (Int.toNat u7_10) (Int.toNat u7_10)) (cond (Nat.beq (Int.toNat u7_10) (Int.toNat u7_10)) (u7_11.f (Int.toNat u7_10)).Lift.High (u7_11.f (Int.toNat u7_10)).Lift.High) (cond (Nat.beq (Int.toNat u7_10) (Int.toNat u7_10)) (u7_11.f (Int.toNat u7_10)).Lift.High (u7_11.f (Int.toNat u7_10)).Lift.High)) (cond (Nat.beq k0 (Int.toNat u7_10)) (cond (Nat.beq (Int.toNat u7_10) (Int.toNat u7_10)) (u7_11.f (Int.toNat u7_10)).Lift.High (u7_11.f (Int.toNat u7_10)).Lift.High) (cond (Nat.beq k0 (Int.toNat u7_10)) (u7_11.f (Int.toNat u7_10)).Lift.High (u7_11.f k0).Lift.High))))))))))) (
 .fail)) (
 .leaf (.l u7_11))
noncomputable def law10_BalanceNarrows_l7_m : LpM := ⟨Int × Int × (Sq Int) × (Sq Int) × (Sq SPlace) × (Sq SRoad) × (Sq SFan) × (Sq SDoor) × (Sq Int), Int × (Sq SRoad), (Sq SRoad), Unit, fun p => ⟨[(2, .int .u8 p.1.1), (8, .ptr 640 0), (9, .ptr 704 0), (11, .own 1216 0), (12, .int .i64 p.1.2.1), (13, .ptr 2496 0), (50, .int .i64 ((p.1.2.2.2.2.2.1.n : Nat) : Int)), (51, .int .i64 p.2.1)], [(324, rowA 0 1 3 (eI .i64) p.1.2.2.1), (325, rowA 0 1 3 (eI .i64) p.1.2.2.2.1), (640, .var [sqA 2 SPlace.enc p.1.2.2.2.2.1, sqA 10 SRoad.enc p.1.2.2.2.2.2.1, sqA 4 SFan.enc p.1.2.2.2.2.2.2.1, sqA 3 SDoor.enc p.1.2.2.2.2.2.2.2.1]), (704, .var [.own 324 0, .own 325 0]), (1216, rowA 0 1 3 (eI .i64) p.1.2.2.2.2.2.2.2.2), (2048, rowA 0 10 60 SRoad.enc p.2.2), (2496, .var [sqA 2 SPlace.enc p.1.2.2.2.2.1, .own 2048 0, sqA 4 SFan.enc p.1.2.2.2.2.2.2.1, sqA 3 SDoor.enc p.1.2.2.2.2.2.2.2.1])], 2944⟩, fun f v => law10_BalanceNarrows_l7_step f.1 f.2.1 f.2.2.1 f.2.2.2.1 f.2.2.2.2.1 f.2.2.2.2.2.1 f.2.2.2.2.2.2.1 f.2.2.2.2.2.2.2.1 f.2.2.2.2.2.2.2.2 v.1 v.2, true, (.exit 0), (fun x a => ⟨[(8, .ptr 640 0), (9, .ptr 704 0), (11, .own 1216 0), (12, aget x.tm 12), (13, .ptr 2496 0)], [(324, blkS x 324), (325, blkS x 325), (640, blkS x 640), (704, .var [.own 324 0, .own 325 0]), (1216, blkS x 1216), (2048, rowA 0 10 60 SRoad.enc a), (2496, blkS x 2496)], 2944⟩), .ret, (fun _ _ => ⟨[], [], 0⟩)⟩
noncomputable def law10_BalanceNarrows_l7 (u7_0 u7_1 : Int) (u7_3 u7_4 : Sq Int) (u7_5 : Sq SPlace) (u7_6 : Sq SRoad) (u7_7 : Sq SFan) (u7_8 : Sq SDoor) (u7_9 : Sq Int) (u7_10 : Int) (u7_11 : Sq SRoad) : Option (((Sq SRoad)) ⊕ (Unit)) := law10_BalanceNarrows_l7_m.val ((u7_0, u7_1, u7_3, u7_4, u7_5, u7_6, u7_7, u7_8, u7_9), (u7_10, u7_11))
theorem law10_BalanceNarrows_l7_eq (u7_0 u7_1 : Int) (u7_3 u7_4 : Sq Int) (u7_5 : Sq SPlace) (u7_6 : Sq SRoad) (u7_7 : Sq SFan) (u7_8 : Sq SDoor) (u7_9 : Sq Int) (u7_10 : Int) (u7_11 : Sq SRoad) : law10_BalanceNarrows_l7 u7_0 u7_1 u7_3 u7_4 u7_5 u7_6 u7_7 u7_8 u7_9 u7_10 u7_11 = fixO (fun v : Int × (Sq SRoad) => law10_BalanceNarrows_l7_step u7_0 u7_1 u7_3 u7_4 u7_5 u7_6 u7_7 u7_8 u7_9 v.1 v.2) (u7_10, u7_11) := law10_BalanceNarrows_l7_m.val_eq (fun x => ((intA (aget x.tm 2), intA (aget x.tm 12), sqB dI (blkS x 324), sqB dI (blkS x 325), sqD SPlace.dec (cellS x 640 0), sqD SRoad.dec (cellS x 640 1), sqD SFan.dec (cellS x 640 2), sqD SDoor.dec (cellS x 640 3), sqB dI (blkS x 1216)), (intA (aget x.tm 51), sqB SRoad.dec (blkS x 2048)))) (fun p => by kernel_rfl) ((u7_0, u7_1, u7_3, u7_4, u7_5, u7_6, u7_7, u7_8, u7_9), (u7_10, u7_11))
noncomputable def law10_BalanceNarrows_t (codes : Sq Int) (place by_ : Int) : DT (Bool) :=
 .bind (New codes) fun z0 =>
 .bind (Codes_Made z0) fun z1 =>
 .bind (law10_around (SCodes.mk z0.l_ z1.2.2.2) z1.1 z1.2.2.1) fun z2 =>
 .bind (Mod place ((z2.1.n : Nat) : Int)) fun z3 =>
 .ite (decide (z1.1.Mine.Roads.n * 72 ≤ 140737488355328 ∧ z1.1.Mine.Roads.n ≤ 1099511627776)) (
 .sum (law10_BalanceNarrows_l7 by_ z3 z1.2.1.Fans z1.2.1.Doors z1.1.Mine.Places z1.1.Mine.Roads z1.1.Fans z1.1.Doors z2.1 (0 : Int) z1.1.Mine.Roads) (fun y0 =>
 .bind (balance_Net z1.1 z1.2.1 z2.1 z3) fun z4 =>
 .bind (balance_Net (SAir.mk (SMine.mk z1.1.Mine.Places y0) z1.1.Fans z1.1.Doors) z1.2.1 z2.1 z3) fun z5 =>
 .ite (decide (z5.Low ≤ z4.Low)) (
 .ite (decide (z4.Low ≤ z4.High)) (
 .ite (decide (z5.High ≥ z4.High)) (
 .bind (law10_awake) fun z6 =>
 .leaf z6) (
 .leaf false)) (
 .leaf false)) (
 .leaf false)) (fun _ => .fail)) (
 .fail)
noncomputable def law10_BalanceNarrows_m : FnM := flM ((Sq Int) × Int × Int) (Bool) (fun p => ([sqA 1 (eI .u8) p.1, .int .i64 p.2.1, .int .u8 p.2.2], [])) (fun p => law10_BalanceNarrows_t p.1 p.2.1 p.2.2) (fun r => .bool r) (fun _ => rfl)
noncomputable def law10_BalanceNarrows_env : Env := envM [(9, New_m.c), (10, Codes_Made_m.c), (11, law10_around_m.c), (13, Mod_m.c), (14, balance_Net_m.c), (16, law10_awake_m.c)] [(7, [2, 8, 9, 11, 12, 13, 50, 51], [8, 9, 11, 12, 13])] [(7, law10_BalanceNarrows_l7_m.c)] [(3, [.freeze 320, .freeze 321, .freeze 322, .freeze 323])] [(7, [324, 325, 640, 704, 1216, 2048, 2496])] 0
noncomputable def law10_BalanceNarrows_e : Env := { law10_BalanceNarrows_env with nt := 144 }
theorem law10_BalanceNarrows_l7_tells : LoopTells law10_BalanceNarrows_e (loopOf 7 Try.f8) law10_BalanceNarrows_l7_m.c := law10_BalanceNarrows_l7_m.tells 2944 (fun _ => by kernel_rfl) (fun _ _ _ _ => by kernel_rfl) (fun _ _ _ _ => by kernel_rfl) fun R f v N K => by kernel_rfl
theorem law10_BalanceNarrows_tells : Tells Try.prog 8 law10_BalanceNarrows_m.c := law10_BalanceNarrows_m.tells Try.func8 (show ∀ p, arun law10_BalanceNarrows_env Try.f8 (law10_BalanceNarrows_m.enc p).1 (law10_BalanceNarrows_m.enc p).2 = _ from fun p => by kernel_rfl) (loopsL [loopOf 7 Try.f8] (by kernel_rfl) ⟨lpT (by kernel_rfl) law10_BalanceNarrows_l7_tells, trivial⟩) (.cons New_tells (.cons Codes_Made_tells (.cons law10_around_tells (.cons Mod_tells (.cons balance_Net_tells (.cons law10_awake_tells .nil))))))
noncomputable def law10_BalanceNarrows (codes : Sq Int) (place by_ : Int) : Option (Bool) := law10_BalanceNarrows_m.val (codes, place, by_)
theorem law10_BalanceNarrows_eq (codes : Sq Int) (place by_ : Int) : law10_BalanceNarrows codes place by_ = (law10_BalanceNarrows_t codes place by_).get := law10_BalanceNarrows_m.val_eq (fun x => (sqD dI (gd x.1 0), intA (gd x.1 1), intA (gd x.1 2))) (fun p => by kernel_rfl) (codes, place, by_)
theorem law10_BalanceNarrows_inj : ∀ a b, law10_BalanceNarrows_m.enc a = law10_BalanceNarrows_m.enc b → a = b := linj (fun x => (sqD dI (gd x.1 0), intA (gd x.1 1), intA (gd x.1 2))) (fun p => by kernel_rfl)
end Go.Proofs.Ytandmllkfeghbaa.Ab
