/- Mirrors of code, stage 11. -/
import Derived.Test.YtnoeblpanfbpjaaGreatXkw
import Derived.Test.YtnoeblpanfbpjaaGreatXkv
namespace Go.Proofs.YtnoeblpanfbpjaaGreat.Ab
open Go
attribute [local irreducible] arun



/-! minecontrol/minecontrollaw11.CertifyMeans -/
noncomputable def law11_CertifyMeans_l7_step (u7_0 : Sq SPlace) (u7_2 : Sq SRoad) (u7_3 : Sq SFan) (u7_4 : Sq SDoor) (u7_5 u7_6 u7_7 u7_8 : Sq Int) (u7_9 : Sq Bool) (u7_10 : Bool) (u7_11 : Int) : DT (LR (Bool × Int) (Bool) (Unit)) :=
 .ite (decide (u7_11 < ((u7_0.n : Nat) : Int))) (
 .ite (decide ((0 : Int) ≤ u7_11 ∧ u7_11 < ((u7_0.n : Nat) : Int))) (
 .ite (u7_0.f (Int.toNat u7_11)).Surface (
 .ite u7_10 (
 .ite (decide ((0 : Int) ≤ u7_11 ∧ u7_11 < ((u7_7.n : Nat) : Int))) (
 .ite ((u7_7.f (Int.toNat u7_11)) == (0 : Int)) (
 .ite (decide ((0 : Int) ≤ u7_11 ∧ u7_11 < ((u7_8.n : Nat) : Int))) (
 .leaf (.next (((u7_8.f (Int.toNat u7_11)) == (0 : Int)), (wr (u7_11 + (1 : Int)))))) (
 .fail)) (
 .leaf (.next (false, (wr (u7_11 + (1 : Int))))))) (
 .fail)) (
 .leaf (.next (false, (wr (u7_11 + (1 : Int))))))) (
 .ite (decide ((0 : Int) ≤ u7_11 ∧ u7_11 < ((u7_9.n : Nat) : Int))) (
 .ite (!(u7_9.f (Int.toNat u7_11))) (
 .ite u7_10 (
 .ite (decide ((0 : Int) ≤ u7_11 ∧ u7_11 < ((u7_7.n : Nat) : Int))) (
 .ite ((u7_7.f (Int.toNat u7_11)) == (0 : Int)) (
 .ite (decide ((0 : Int) ≤ u7_11 ∧ u7_11 < ((u7_8.n : Nat) : Int))) (
 .leaf (.next (((u7_8.f (Int.toNat u7_11)) == (0 : Int)), (wr (u7_11 + (1 : Int)))))) (
 .fail)) (
 .leaf (.next (false, (wr (u7_11 + (1 : Int))))))) (
 .fail)) (
 .leaf (.next (false, (wr (u7_11 + (1 : Int))))))) (
 .ite u7_10 (
 .bind (balance_Net (SAir.mk (SMine.mk u7_0 u7_2) u7_3 u7_4) (SSetting.mk u7_5 u7_6) u7_8 u7_11) fun z0 =>
 .ite (decide (z0.Low ≥ (0 : Int))) (
 .bind (balance_Net (SAir.mk (SMine.mk u7_0 u7_2) u7_3 u7_4) (SSetting.mk u7_5 u7_6) u7_7 u7_11) fun z1 =>
 .leaf (.next ((decide (z1.High ≤ (0 : Int))), (wr (u7_11 + (1 : Int)))))) (
 .leaf (.next (false, (wr (u7_11 + (1 : Int))))))) (
 .leaf (.next (false, (wr (u7_11 + (1 : Int)))))))) (
 .fail))) (
 .fail)) (
 .leaf (.l u7_10))
noncomputable def law11_CertifyMeans_l7_m : LpM := ⟨(Sq SPlace) × (Sq SRoad) × (Sq SFan) × (Sq SDoor) × (Sq Int) × (Sq Int) × (Sq Int) × (Sq Int) × (Sq Bool), Bool × Int, Bool, Unit, fun p => ⟨[(4, .ptr 640 0), (5, .ptr 704 0), (7, .ptr 1344 0), (8, .own 1600 0), (9, .bool p.2.1), (31, sqA 2 SPlace.enc p.1.1), (32, .int .i64 ((p.1.1.n : Nat) : Int)), (33, .int .i64 p.2.2)], [(640, .var [sqA 2 SPlace.enc p.1.1, sqA 10 SRoad.enc p.1.2.1, sqA 4 SFan.enc p.1.2.2.1, sqA 3 SDoor.enc p.1.2.2.2.1]), (704, .var [sqA 1 (eI .i64) p.1.2.2.2.2.1, sqA 1 (eI .i64) p.1.2.2.2.2.2.1]), (1280, rowA 0 1 3 (eI .i64) p.1.2.2.2.2.2.2.1), (1281, rowA 0 1 3 (eI .i64) p.1.2.2.2.2.2.2.2.1), (1344, .var [.own 1280 0, .own 1281 0]), (1600, rowA 0 1 4 eO p.1.2.2.2.2.2.2.2.2)], 2112⟩, fun f v => law11_CertifyMeans_l7_step f.1 f.2.1 f.2.2.1 f.2.2.2.1 f.2.2.2.2.1 f.2.2.2.2.2.1 f.2.2.2.2.2.2.1 f.2.2.2.2.2.2.2.1 f.2.2.2.2.2.2.2.2 v.1 v.2, true, (.exit 0), (fun x a => ⟨[(4, .ptr 640 0), (5, .ptr 704 0), (7, .ptr 1344 0), (9, .bool a)], [(640, blkS x 640), (704, blkS x 704), (1280, blkS x 1280), (1281, blkS x 1281), (1344, .var [.own 1280 0, .own 1281 0]), (1600, blkS x 1600)], 2112⟩), .ret, (fun _ _ => ⟨[], [], 0⟩), c1, c1k⟩
noncomputable def law11_CertifyMeans_l7 (u7_0 : Sq SPlace) (u7_2 : Sq SRoad) (u7_3 : Sq SFan) (u7_4 : Sq SDoor) (u7_5 u7_6 u7_7 u7_8 : Sq Int) (u7_9 : Sq Bool) (u7_10 : Bool) (u7_11 : Int) : Option ((Bool) ⊕ (Unit)) := law11_CertifyMeans_l7_m.val ((u7_0, u7_2, u7_3, u7_4, u7_5, u7_6, u7_7, u7_8, u7_9), (u7_10, u7_11))
theorem law11_CertifyMeans_l7_eq (u7_0 : Sq SPlace) (u7_2 : Sq SRoad) (u7_3 : Sq SFan) (u7_4 : Sq SDoor) (u7_5 u7_6 u7_7 u7_8 : Sq Int) (u7_9 : Sq Bool) (u7_10 : Bool) (u7_11 : Int) : law11_CertifyMeans_l7 u7_0 u7_2 u7_3 u7_4 u7_5 u7_6 u7_7 u7_8 u7_9 u7_10 u7_11 = fixO (fun v : Bool × Int => law11_CertifyMeans_l7_step u7_0 u7_2 u7_3 u7_4 u7_5 u7_6 u7_7 u7_8 u7_9 v.1 v.2) (u7_10, u7_11) := law11_CertifyMeans_l7_m.val_eq (fun x => ((sqD SPlace.dec (aget x.tm 31), sqD SRoad.dec (cellS x 640 1), sqD SFan.dec (cellS x 640 2), sqD SDoor.dec (cellS x 640 3), sqD dI (cellS x 704 0), sqD dI (cellS x 704 1), sqB dI (blkS x 1280), sqB dI (blkS x 1281), sqB dO (blkS x 1600)), (boolA (aget x.tm 9), intA (aget x.tm 33)))) (fun p => by kernel_rfl) ((u7_0, u7_2, u7_3, u7_4, u7_5, u7_6, u7_7, u7_8, u7_9), (u7_10, u7_11))
noncomputable def law11_CertifyMeans_t (codes : Sq Int) : DT (Bool) :=
 .bind (New codes) fun z2 =>
 .bind (Codes_Made z2) fun z3 =>
 .bind (law11_bounds (SCodes.mk z2.l_ z3.2.2.2) z3.1 z3.2.1 z3.2.2.1) fun z4 =>
 .bind (ref01_Airy z3.1.Mine) fun z5 =>
 .sum (law11_CertifyMeans_l7 z3.1.Mine.Places z3.1.Mine.Roads z3.1.Fans z3.1.Doors z3.2.1.Fans z3.2.1.Doors z4.1.Low z4.1.High z5 true (0 : Int)) (fun y0 =>
 .ite y0 (
 .bind (certify_Check z3.1 z3.2.1 z4.1) fun z6 =>
 .ite (z6 == (0 : Int)) (
 .bind (law11_awake) fun z7 =>
 .leaf z7) (
 .leaf false)) (
 .bind (certify_Check z3.1 z3.2.1 z4.1) fun z8 =>
 .ite (z8 == (12 : Int)) (
 .bind (law11_awake) fun z9 =>
 .leaf z9) (
 .leaf false))) (fun _ => .fail)
noncomputable def law11_CertifyMeans_m : FnM := flM ((Sq Int)) (Bool) (fun p => ([sqA 1 (eI .u8) p], [])) (fun p => law11_CertifyMeans_t p) (fun r => .bool r) (fun _ => rfl)
noncomputable def law11_CertifyMeans_env : Env := envM [(8, New_m.c), (9, Codes_Made_m.c), (10, law11_bounds_m.c), (19, ref01_Airy_m.c), (21, balance_Net_m.c), (12, certify_Check_m.c), (17, law11_awake_m.c)] [(7, [4, 5, 7, 8, 9, 31, 32, 33], [4, 5, 7, 9])] [(7, law11_CertifyMeans_l7_m.c)] [(3, [.freeze 320, .freeze 321, .freeze 322, .freeze 323, .freeze 324, .freeze 325])] [(7, [640, 704, 1280, 1281, 1344, 1600])] 0
noncomputable def law11_CertifyMeans_e : Env := { law11_CertifyMeans_env with nt := 96 }
theorem law11_CertifyMeans_l7_tells : LoopTells law11_CertifyMeans_e (loopOf 7 Tryz.f7) law11_CertifyMeans_l7_m.c := law11_CertifyMeans_l7_m.tells 2112 (fun _ => by kernel_rfl) (fun _ _ _ _ => by kernel_rfl) (fun _ _ _ _ => by kernel_rfl) fun R f v N K => by kernel_rfl
theorem law11_CertifyMeans_tells : Tells Tryz.prog 7 law11_CertifyMeans_m.c := law11_CertifyMeans_m.tells Tryz.func7 (show ∀ p, arun law11_CertifyMeans_env Tryz.f7 (law11_CertifyMeans_m.enc p).1 (law11_CertifyMeans_m.enc p).2 = _ from fun p => by kernel_rfl) (loopsL [loopOf 7 Tryz.f7] (by kernel_rfl) ⟨lpT (by kernel_rfl) law11_CertifyMeans_l7_tells, trivial⟩) (.cons New_tells (.cons Codes_Made_tells (.cons law11_bounds_tells (.cons ref01_Airy_tells (.cons balance_Net_tells (.cons certify_Check_tells (.cons law11_awake_tells .nil)))))))
noncomputable def law11_CertifyMeans (codes : Sq Int) : Option (Bool) := law11_CertifyMeans_m.val codes
theorem law11_CertifyMeans_eq (codes : Sq Int) : law11_CertifyMeans codes = (law11_CertifyMeans_t codes).get := law11_CertifyMeans_m.val_eq (fun x => sqD dI (gd x.1 0)) (fun p => by kernel_rfl) codes
theorem law11_CertifyMeans_inj : ∀ a b, law11_CertifyMeans_m.enc a = law11_CertifyMeans_m.enc b → a = b := linj (fun x => sqD dI (gd x.1 0)) (fun p => by kernel_rfl)
end Go.Proofs.YtnoeblpanfbpjaaGreat.Ab
