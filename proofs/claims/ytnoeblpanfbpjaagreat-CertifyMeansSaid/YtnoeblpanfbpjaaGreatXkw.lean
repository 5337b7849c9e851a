/- Mirrors of code, stage 11. -/
import Derived.Test.YtnoeblpanfbpjaaGreatXks
namespace Go.Proofs.YtnoeblpanfbpjaaGreat.Ab
open Go
attribute [local irreducible] arun



/-! minecontrol/minecontrollaw11.bounds -/
noncomputable def law11_bounds_l5_step (u5_1 : Sq Int) (u5_3 : Sq SPlace) (_u5_4 : Sq SRoad) (_u5_5 : Sq SFan) (_u5_6 : Sq SDoor) (u5_2 : Int) (u5_7 : Sq Int) (u5_8 : Int) (u5_9 : Sq Int) : DT (LR (Int × (Sq Int) × Int × (Sq Int)) (Int × (Sq Int) × (Sq Int)) (Unit)) :=
 .ite (decide (u5_8 < ((u5_7.n : Nat) : Int))) (
 .ite (decide ((0 : Int) ≤ u5_8 ∧ u5_8 < ((u5_3.n : Nat) : Int))) (
 .ite (!(u5_3.f (Int.toNat u5_8)).Surface) (
 .ite (decide ((0 : Int) ≤ u5_8 ∧ u5_8 < ((u5_7.n : Nat) : Int))) (
 .bind (Codes_Next (SCodes.mk u5_1 u5_2) (9000 : Int)) fun z0 =>
 .ite (decide ((0 : Int) ≤ u5_8 ∧ u5_8 < ((u5_9.n : Nat) : Int))) (
 .bind (Codes_Next (SCodes.mk u5_1 z0.2) (9000 : Int)) fun z1 =>
 .ite (decide ((0 : Int) ≤ u5_8 ∧ u5_8 < ((u5_7.n : Nat) : Int))) (
 .ite (decide ((0 : Int) ≤ u5_8 ∧ u5_8 < ((u5_9.n : Nat) : Int))) (
 .leaf (.next (z1.2, (Sq.mk u5_7.n (fun k0 => (cond (Nat.beq k0 (Int.toNat u5_8)) (wr ((u5_7.f (Int.toNat u5_8)) - z0.1)) (u5_7.f k0)))), (wr (u5_8 + (1 : Int))), (Sq.mk u5_9.n (fun k1 => (cond (Nat.beq k1 (Int.toNat u5_8)) (wr ((u5_9.f (Int.toNat u5_8)) + z1.1)) (u5_9.f k1))))))) (
 .fail)) (
 .fail)) (
 .fail)) (
 .fail)) (
 .leaf (.next (u5_2, u5_7, (wr (u5_8 + (1 : Int))), u5_9)))) (
 .fail)) (
 .leaf (.l (u5_2, u5_7, u5_9)))
noncomputable def law11_bounds_l5_m : LpM := ⟨(Sq Int) × (Sq SPlace) × (Sq SRoad) × (Sq SFan) × (Sq SDoor), Int × (Sq Int) × Int × (Sq Int), Int × (Sq Int) × (Sq Int), Unit, fun p => ⟨[(0, .ptr 0 0), (5, .ptr 1 0), (8, .ptr 193 0), (9, .ptr 641 0), (34, .int .i64 ((p.2.2.1.n : Nat) : Int)), (35, .int .i64 p.2.2.2.1)], [(0, .var [sqA 1 (eI .u8) p.1.1, .int .i64 p.2.1]), (1, .var [sqA 2 SPlace.enc p.1.2.1, sqA 10 SRoad.enc p.1.2.2.1, sqA 4 SFan.enc p.1.2.2.2.1, sqA 3 SDoor.enc p.1.2.2.2.2]), (193, .var [.own 194 0, .own 195 0]), (194, .nilrow 0), (195, .nilrow 0), (641, .var [.own 1345 0, .own 1537 0]), (1345, rowA 0 1 3 (eI .i64) p.2.2.1), (1537, rowA 0 1 3 (eI .i64) p.2.2.2.2)], 1985⟩, fun f v => law11_bounds_l5_step f.1 f.2.1 f.2.2.1 f.2.2.2.1 f.2.2.2.2 v.1 v.2.1 v.2.2.1 v.2.2.2, true, (.exit 0), (fun x a => ⟨[(0, .ptr 0 0), (8, .ptr 193 0), (9, .ptr 641 0)], [(0, .var [cellS x 0 0, .int .i64 a.1]), (1, blkS x 1), (193, .var [.own 194 0, .own 195 0]), (194, .nilrow 0), (195, .nilrow 0), (641, .var [.own 1345 0, .own 1537 0]), (1345, rowA 0 1 3 (eI .i64) a.2.1), (1537, rowA 0 1 3 (eI .i64) a.2.2)], 1985⟩), .ret, (fun _ _ => ⟨[], [], 0⟩), c1, c1k⟩
noncomputable def law11_bounds_l5 (u5_1 : Sq Int) (u5_3 : Sq SPlace) (u5_4 : Sq SRoad) (u5_5 : Sq SFan) (u5_6 : Sq SDoor) (u5_2 : Int) (u5_7 : Sq Int) (u5_8 : Int) (u5_9 : Sq Int) : Option ((Int × (Sq Int) × (Sq Int)) ⊕ (Unit)) := law11_bounds_l5_m.val ((u5_1, u5_3, u5_4, u5_5, u5_6), (u5_2, u5_7, u5_8, u5_9))
theorem law11_bounds_l5_eq (u5_1 : Sq Int) (u5_3 : Sq SPlace) (u5_4 : Sq SRoad) (u5_5 : Sq SFan) (u5_6 : Sq SDoor) (u5_2 : Int) (u5_7 : Sq Int) (u5_8 : Int) (u5_9 : Sq Int) : law11_bounds_l5 u5_1 u5_3 u5_4 u5_5 u5_6 u5_2 u5_7 u5_8 u5_9 = fixO (fun v : Int × (Sq Int) × Int × (Sq Int) => law11_bounds_l5_step u5_1 u5_3 u5_4 u5_5 u5_6 v.1 v.2.1 v.2.2.1 v.2.2.2) (u5_2, u5_7, u5_8, u5_9) := law11_bounds_l5_m.val_eq (fun x => ((sqD dI (cellS x 0 0), sqD SPlace.dec (cellS x 1 0), sqD SRoad.dec (cellS x 1 1), sqD SFan.dec (cellS x 1 2), sqD SDoor.dec (cellS x 1 3)), (intA (cellS x 0 1), sqB dI (blkS x 1345), intA (aget x.tm 35), sqB dI (blkS x 1537)))) (fun p => by kernel_rfl) ((u5_1, u5_3, u5_4, u5_5, u5_6), (u5_2, u5_7, u5_8, u5_9))
noncomputable def law11_bounds_t (c : SCodes) (a : SAir) (s : SSetting) (x : SState) : DT (SBounds × Int) :=
 .bind (Solved a s) fun z2 =>
 .ite (!z2.2) (
 .ite (decide (x.Pressures.n * 8 ≤ 140737488355328 ∧ x.Pressures.n ≤ 1099511627776)) (
 .ite (decide (x.Pressures.n * 8 ≤ 140737488355328 ∧ x.Pressures.n ≤ 1099511627776)) (
 .sum (law11_bounds_l5 c.l_ a.Mine.Places a.Mine.Roads a.Fans a.Doors c.at_ x.Pressures (0 : Int) x.Pressures) (fun y0 =>
 .bind (Codes_One (SCodes.mk c.l_ y0.1) (3 : Int)) fun z3 =>
 .ite z3.1 (
 .bind (Codes_Next (SCodes.mk c.l_ z3.2) ((y0.2.1.n : Nat) : Int)) fun z4 =>
 .ite (decide ((0 : Int) ≤ z4.1 ∧ z4.1 < ((y0.2.1.n : Nat) : Int))) (
 .bind (Codes_Range (SCodes.mk c.l_ z4.2) (-2 : Int) (2 : Int)) fun z5 =>
 .ite (decide ((0 : Int) ≤ z4.1 ∧ z4.1 < ((y0.2.1.n : Nat) : Int))) (
 .ite (decide ((0 : Int) ≤ z4.1 ∧ z4.1 < ((y0.2.2.n : Nat) : Int))) (
 .bind (Codes_Range (SCodes.mk c.l_ z5.2) (-2 : Int) (2 : Int)) fun z6 =>
 .ite (decide ((0 : Int) ≤ z4.1 ∧ z4.1 < ((y0.2.2.n : Nat) : Int))) (.leaf ((SBounds.mk (Sq.mk y0.2.1.n (fun k2 => (cond (Nat.beq k2 (Int.toNat z4.1)) (wr ((y0.2.1.f (Int.toNat z4.1)) + z5.1)) (y0.2.1.f k2)))) (Sq.mk y0.2.2.n (fun k3 => (cond (Nat.beq k3 (Int.toNat z4.1)) (wr ((y0.2.2.f (Int.toNat z4.1)) + z6.1)) (y0.2.2.f k3))))), z6.2)) (.fail)) (
 .fail)) (
 .fail)) (
 .fail)) (
 .leaf ((SBounds.mk y0.2.1 y0.2.2), z3.2))) (fun _ => .fail)) (
 .fail)) (
 .fail)) (
 .bind (Codes_One c (4 : Int)) fun z7 =>
 .ite z7.1 (
 .ite (decide (x.Pressures.n * 8 ≤ 140737488355328 ∧ x.Pressures.n ≤ 1099511627776)) (
 .ite (decide (x.Pressures.n * 8 ≤ 140737488355328 ∧ x.Pressures.n ≤ 1099511627776)) (
 .sum (law11_bounds_l5 c.l_ a.Mine.Places a.Mine.Roads a.Fans a.Doors z7.2 x.Pressures (0 : Int) x.Pressures) (fun y1 =>
 .bind (Codes_One (SCodes.mk c.l_ y1.1) (3 : Int)) fun z8 =>
 .ite z8.1 (
 .bind (Codes_Next (SCodes.mk c.l_ z8.2) ((y1.2.1.n : Nat) : Int)) fun z9 =>
 .ite (decide ((0 : Int) ≤ z9.1 ∧ z9.1 < ((y1.2.1.n : Nat) : Int))) (
 .bind (Codes_Range (SCodes.mk c.l_ z9.2) (-2 : Int) (2 : Int)) fun z10 =>
 .ite (decide ((0 : Int) ≤ z9.1 ∧ z9.1 < ((y1.2.1.n : Nat) : Int))) (
 .ite (decide ((0 : Int) ≤ z9.1 ∧ z9.1 < ((y1.2.2.n : Nat) : Int))) (
 .bind (Codes_Range (SCodes.mk c.l_ z10.2) (-2 : Int) (2 : Int)) fun z11 =>
 .ite (decide ((0 : Int) ≤ z9.1 ∧ z9.1 < ((y1.2.2.n : Nat) : Int))) (.leaf ((SBounds.mk (Sq.mk y1.2.1.n (fun k4 => (cond (Nat.beq k4 (Int.toNat z9.1)) (wr ((y1.2.1.f (Int.toNat z9.1)) + z10.1)) (y1.2.1.f k4)))) (Sq.mk y1.2.2.n (fun k5 => (cond (Nat.beq k5 (Int.toNat z9.1)) (wr ((y1.2.2.f (Int.toNat z9.1)) + z11.1)) (y1.2.2.f k5))))), z11.2)) (.fail)) (
 .fail)) (
 .fail)) (
 .fail)) (
 .leaf ((SBounds.mk y1.2.1 y1.2.2), z8.2))) (fun _ => .fail)) (
 .fail)) (
 .fail)) (
 .bind (Codes_One (SCodes.mk c.l_ z7.2) (3 : Int)) fun z12 =>
 .ite z12.1 (
 .bind (Codes_Next (SCodes.mk c.l_ z12.2) ((z2.1.Low.n : Nat) : Int)) fun z13 =>
 .ite (decide ((0 : Int) ≤ z13.1 ∧ z13.1 < ((z2.1.Low.n : Nat) : Int))) (
 .bind (Codes_Range (SCodes.mk c.l_ z13.2) (-2 : Int) (2 : Int)) fun z14 =>
 .ite (decide ((0 : Int) ≤ z13.1 ∧ z13.1 < ((z2.1.Low.n : Nat) : Int))) (
 .ite (decide ((0 : Int) ≤ z13.1 ∧ z13.1 < ((z2.1.High.n : Nat) : Int))) (
 .bind (Codes_Range (SCodes.mk c.l_ z14.2) (-2 : Int) (2 : Int)) fun z15 =>
 .ite (decide ((0 : Int) ≤ z13.1 ∧ z13.1 < ((z2.1.High.n : Nat) : Int))) (.leaf ((SBounds.mk (Sq.mk z2.1.Low.n (fun k6 => (cond (Nat.beq k6 (Int.toNat z13.1)) (wr ((z2.1.Low.f (Int.toNat z13.1)) + z14.1)) (z2.1.Low.f k6)))) (Sq.mk z2.1.High.n (fun k7 => (cond (Nat.beq k7 (Int.toNat z13.1)) (wr ((z2.1.High.f (Int.toNat z13.1)) + z15.1)) (z2.1.High.f k7))))), z15.2)) (.fail)) (
 .fail)) (
 .fail)) (
 .fail)) (
 .leaf (z2.1, z12.2))))
noncomputable def law11_bounds_m : FnM := nfM (SCodes × SAir × SSetting × SState) (SBounds × Int) (fun p => ([.ptr 0 0, .agg (SAir.enc p.2.1), .agg (SSetting.enc p.2.2.1), .agg (SState.enc p.2.2.2)], [.var (SCodes.enc p.1)])) (fun p => law11_bounds_t p.1 p.2.1 p.2.2.1 p.2.2.2) (fun _ => .agg [.own 1 0, .own 2 0]) (fun ins r => [.var [cellB ins 0 0, .int .i64 r.2], rowA 0 1 3 (eI .i64) r.1.Low, rowA 0 1 3 (eI .i64) r.1.High])
noncomputable def law11_bounds_env : Env := envM [(29, Solved_m.c), (23, Codes_Next_m.c), (22, Codes_One_m.c), (24, Codes_Range_m.c)] [(5, [0, 5, 8, 9, 34, 35], [0, 8, 9])] [(5, law11_bounds_l5_m.c)] [] [(5, [0, 1, 193, 194, 195, 641, 1345, 1537])] 1
noncomputable def law11_bounds_e : Env := { law11_bounds_env with nt := 97 }
theorem law11_bounds_l5_tells : LoopTells law11_bounds_e (loopOf 5 Tryz.f10) law11_bounds_l5_m.c := law11_bounds_l5_m.tells 1985 (fun _ => by kernel_rfl) (fun _ _ _ _ => by kernel_rfl) (fun _ _ _ _ => by kernel_rfl) fun R f v N K => by kernel_rfl
theorem law11_bounds_tells : Tells Tryz.prog 10 law11_bounds_m.c := law11_bounds_m.tells Tryz.func10 (show ∀ p, arun law11_bounds_env Tryz.f10 (law11_bounds_m.enc p).1 (law11_bounds_m.enc p).2 = _ from fun p => by kernel_rfl) (loopsL [loopOf 5 Tryz.f10] (by kernel_rfl) ⟨lpT (by kernel_rfl) law11_bounds_l5_tells, trivial⟩) (.cons Solved_tells (.cons Codes_Next_tells (.cons Codes_One_tells (.cons Codes_Range_tells .nil))))
noncomputable def law11_bounds (c : SCodes) (a : SAir) (s : SSetting) (x : SState) : Option (SBounds × Int) := law11_bounds_m.val (c, a, s, x)
theorem law11_bounds_eq (c : SCodes) (a : SAir) (s : SSetting) (x : SState) : law11_bounds c a s x = (law11_bounds_t c a s x).get := law11_bounds_m.val_eq (fun x => (SCodes.dec (varL (dB x.2 0)), SAir.dec (aggL (gd x.1 1)), SSetting.dec (aggL (gd x.1 2)), SState.dec (aggL (gd x.1 3)))) (fun p => by kernel_rfl) (c, a, s, x)
theorem law11_bounds_inj : ∀ a b, law11_bounds_m.enc a = law11_bounds_m.enc b → a = b := linj (fun x => (SCodes.dec (varL (dB x.2 0)), SAir.dec (aggL (gd x.1 1)), SSetting.dec (aggL (gd x.1 2)), SState.dec (aggL (gd x.1 3)))) (fun p => by kernel_rfl)
end Go.Proofs.YtnoeblpanfbpjaaGreat.Ab
