/- Mirrors of code, stage 11. -/
import Derived.Test.YtnoeblpanfbpjaaGreatXkw
import Derived.Test.YtnoeblpanfbpjaaGreatXkv
import Derived.Test.YtnoeblpanfbpjaaGreatXkf
namespace Go.Proofs.YtnoeblpanfbpjaaGreat.Ab
open Go
attribute [local irreducible] arun



/-! minecontrol/minecontrollaw11.CertifyProves -/
noncomputable def law11_CertifyProves_l10_step (u10_0 : Sq Int) (_u10_2 : Sq SPlace) (_u10_3 : Sq SRoad) (_u10_4 : Sq SFan) (_u10_5 : Sq SDoor) (_u10_6 _u10_7 _u10_8 u10_9 u10_10 : Sq Int) (u10_11 : Sq Bool) (u10_12 : Int) : DT (LR (Int) (Unit) (Unit)) :=
 .ite (decide (u10_12 < ((u10_0.n : Nat) : Int))) (
 .ite (decide ((0 : Int) ≤ u10_12 ∧ u10_12 < ((u10_0.n : Nat) : Int))) (
 .ite (decide ((0 : Int) ≤ u10_12 ∧ u10_12 < ((u10_11.n : Nat) : Int))) (
 .ite (u10_11.f (Int.toNat u10_12)) (
 .ite (decide ((0 : Int) ≤ u10_12 ∧ u10_12 < ((u10_9.n : Nat) : Int))) (
 .ite (decide ((u10_0.f (Int.toNat u10_12)) < (u10_9.f (Int.toNat u10_12)))) (
 .leaf (.r ())) (
 .ite (decide ((0 : Int) ≤ u10_12 ∧ u10_12 < ((u10_10.n : Nat) : Int))) (
 .ite (decide ((u10_0.f (Int.toNat u10_12)) > (u10_10.f (Int.toNat u10_12)))) (
 .leaf (.r ())) (
 .leaf (.next (wr (u10_12 + (1 : Int)))))) (
 .fail))) (
 .fail)) (
 .leaf (.next (wr (u10_12 + (1 : Int)))))) (
 .fail)) (
 .fail)) (
 .leaf (.l ()))
noncomputable def law11_CertifyProves_l10_m : LpM := ⟨(Sq Int) × (Sq SPlace) × (Sq SRoad) × (Sq SFan) × (Sq SDoor) × (Sq Int) × (Sq Int) × (Sq Int) × (Sq Int) × (Sq Int) × (Sq Bool), Int, Unit, Unit, fun p => ⟨[(4, .ptr 640 0), (5, .ptr 704 0), (6, .ptr 768 0), (7, .ptr 1344 0), (8, .own 2432 0), (42, sqA 1 (eI .i64) p.1.1), (43, .int .i64 ((p.1.1.n : Nat) : Int)), (44, .int .i64 p.2)], [(640, .var [sqA 2 SPlace.enc p.1.2.1, sqA 10 SRoad.enc p.1.2.2.1, sqA 4 SFan.enc p.1.2.2.2.1, sqA 3 SDoor.enc p.1.2.2.2.2.1]), (704, .var [sqA 1 (eI .i64) p.1.2.2.2.2.2.1, sqA 1 (eI .i64) p.1.2.2.2.2.2.2.1]), (768, .var [sqA 1 (eI .i64) p.1.1, sqA 1 (eI .i64) p.1.2.2.2.2.2.2.2.1]), (1280, rowA 0 1 3 (eI .i64) p.1.2.2.2.2.2.2.2.2.1), (1281, rowA 0 1 3 (eI .i64) p.1.2.2.2.2.2.2.2.2.2.1), (1344, .var [.own 1280 0, .own 1281 0]), (2432, rowA 0 1 4 eO p.1.2.2.2.2.2.2.2.2.2.2)], 2816⟩, fun f v => law11_CertifyProves_l10_step f.1 f.2.1 f.2.2.1 f.2.2.2.1 f.2.2.2.2.1 f.2.2.2.2.2.1 f.2.2.2.2.2.2.1 f.2.2.2.2.2.2.2.1 f.2.2.2.2.2.2.2.2.1 f.2.2.2.2.2.2.2.2.2.1 f.2.2.2.2.2.2.2.2.2.2 v, false, (.exit 0), (fun x _ => ⟨[(2, .undef), (4, .ptr 640 0), (5, .ptr 704 0), (6, .ptr 768 0), (7, .ptr 1344 0)], [(640, blkS x 640), (704, blkS x 704), (768, blkS x 768), (1280, blkS x 1280), (1281, blkS x 1281), (1344, .var [.own 1280 0, .own 1281 0]), (2432, blkS x 2432)], 2816⟩), .ret, (fun x _ => ⟨[(2, .bool false), (4, .ptr 640 0), (5, .ptr 704 0), (6, .ptr 768 0), (7, .ptr 1344 0)], [(640, blkS x 640), (704, blkS x 704), (768, blkS x 768), (1280, blkS x 1280), (1281, blkS x 1281), (1344, .var [.own 1280 0, .own 1281 0]), (2432, blkS x 2432)], 2816⟩), c1, c1k⟩
noncomputable def law11_CertifyProves_l10 (u10_0 : Sq Int) (u10_2 : Sq SPlace) (u10_3 : Sq SRoad) (u10_4 : Sq SFan) (u10_5 : Sq SDoor) (u10_6 u10_7 u10_8 u10_9 u10_10 : Sq Int) (u10_11 : Sq Bool) (u10_12 : Int) : Option ((Unit) ⊕ (Unit)) := law11_CertifyProves_l10_m.val ((u10_0, u10_2, u10_3, u10_4, u10_5, u10_6, u10_7, u10_8, u10_9, u10_10, u10_11), u10_12)
theorem law11_CertifyProves_l10_eq (u10_0 : Sq Int) (u10_2 : Sq SPlace) (u10_3 : Sq SRoad) (u10_4 : Sq SFan) (u10_5 : Sq SDoor) (u10_6 u10_7 u10_8 u10_9 u10_10 : Sq Int) (u10_11 : Sq Bool) (u10_12 : Int) : law11_CertifyProves_l10 u10_0 u10_2 u10_3 u10_4 u10_5 u10_6 u10_7 u10_8 u10_9 u10_10 u10_11 u10_12 = fixO (fun v : Int => law11_CertifyProves_l10_step u10_0 u10_2 u10_3 u10_4 u10_5 u10_6 u10_7 u10_8 u10_9 u10_10 u10_11 v) u10_12 := law11_CertifyProves_l10_m.val_eq (fun x => ((sqD dI (aget x.tm 42), sqD SPlace.dec (cellS x 640 0), sqD SRoad.dec (cellS x 640 1), sqD SFan.dec (cellS x 640 2), sqD SDoor.dec (cellS x 640 3), sqD dI (cellS x 704 0), sqD dI (cellS x 704 1), sqD dI (cellS x 768 1), sqB dI (blkS x 1280), sqB dI (blkS x 1281), sqB dO (blkS x 2432)), intA (aget x.tm 44))) (fun p => by kernel_rfl) ((u10_0, u10_2, u10_3, u10_4, u10_5, u10_6, u10_7, u10_8, u10_9, u10_10, u10_11), u10_12)
noncomputable def law11_CertifyProves_l19_step (u19_0 : Sq Int) (u19_2 : Sq SSpan) (u19_3 : Int) : DT (LR (Int) (Unit) (Unit)) :=
 .ite (decide (u19_3 < ((u19_0.n : Nat) : Int))) (
 .ite (decide ((0 : Int) ≤ u19_3 ∧ u19_3 < ((u19_0.n : Nat) : Int))) (
 .ite (decide ((0 : Int) ≤ u19_3 ∧ u19_3 < ((u19_2.n : Nat) : Int))) (
 .ite (decide ((u19_0.f (Int.toNat u19_3)) < (u19_2.f (Int.toNat u19_3)).Low)) (
 .leaf (.r ())) (
 .ite (decide ((0 : Int) ≤ u19_3 ∧ u19_3 < ((u19_2.n : Nat) : Int))) (
 .ite (decide ((u19_0.f (Int.toNat u19_3)) > (u19_2.f (Int.toNat u19_3)).High)) (
 .leaf (.r ())) (
 .leaf (.next (wr (u19_3 + (1 : Int)))))) (
 .fail))) (
 .fail)) (
 .fail)) (
 .leaf (.l ()))
noncomputable def law11_CertifyProves_l19_m : LpM := ⟨(Sq Int) × (Sq SSpan), Int, Unit, Unit, fun p => ⟨[(11, .own 3008 0), (83, sqA 1 (eI .i64) p.1.1), (84, .int .i64 ((p.1.1.n : Nat) : Int)), (85, .int .i64 p.2)], [(3008, rowA 0 2 57 SSpan.enc p.1.2)], 3840⟩, fun f v => law11_CertifyProves_l19_step f.1 f.2 v, false, (.exit 2), (fun x _ => ⟨[(2, .undef)], [(3008, blkS x 3008)], 3840⟩), .ret, (fun x _ => ⟨[(2, .bool false)], [(3008, blkS x 3008)], 3840⟩), c1, c1k⟩
noncomputable def law11_CertifyProves_l19 (u19_0 : Sq Int) (u19_2 : Sq SSpan) (u19_3 : Int) : Option ((Unit) ⊕ (Unit)) := law11_CertifyProves_l19_m.val ((u19_0, u19_2), u19_3)
theorem law11_CertifyProves_l19_eq (u19_0 : Sq Int) (u19_2 : Sq SSpan) (u19_3 : Int) : law11_CertifyProves_l19 u19_0 u19_2 u19_3 = fixO (fun v : Int => law11_CertifyProves_l19_step u19_0 u19_2 v) u19_3 := law11_CertifyProves_l19_m.val_eq (fun x => ((sqD dI (aget x.tm 83), sqB SSpan.dec (blkS x 3008)), intA (aget x.tm 85))) (fun p => by kernel_rfl) ((u19_0, u19_2), u19_3)
noncomputable def law11_CertifyProves_t (codes : Sq Int) : DT (Bool) :=
 .bind (New codes) fun z0 =>
 .bind (Codes_Made z0) fun z1 =>
 .bind (law11_bounds (SCodes.mk z0.l_ z1.2.2.2) z1.1 z1.2.1 z1.2.2.1) fun z2 =>
 .bind (branch_Fits z1.1 z1.2.1 z1.2.2.1) fun z3 =>
 .ite (z3 != (0 : Int)) (
 .leaf false) (
 .bind (certify_Check z1.1 z1.2.1 z2.1) fun z4 =>
 .ite (z4 != (0 : Int)) (
 .bind (law11_awake) fun z5 =>
 .leaf z5) (
 .bind (ref01_Airy z1.1.Mine) fun z6 =>
 .sum (law11_CertifyProves_l10 z1.2.2.1.Pressures z1.1.Mine.Places z1.1.Mine.Roads z1.1.Fans z1.1.Doors z1.2.1.Fans z1.2.1.Doors z1.2.2.1.Flows z2.1.Low z2.1.High z6 (0 : Int)) (fun _ =>
 .bind (certify_Flows z1.1 z1.2.1 z2.1) fun z7 =>
 .ite (((z7.n : Nat) : Int) != ((z1.2.2.1.Flows.n : Nat) : Int)) (
 .leaf false) (
 .sum (law11_CertifyProves_l19 z1.2.2.1.Flows z7 (0 : Int)) (fun _ =>
 .bind (law11_awake) fun z8 =>
 .leaf z8) (fun _ => .leaf false))) (fun _ => .leaf false)))
noncomputable def law11_CertifyProves_m : FnM := flM ((Sq Int)) (Bool) (fun p => ([sqA 1 (eI .u8) p], [])) (fun p => law11_CertifyProves_t p) (fun r => .bool r) (fun _ => rfl)
noncomputable def law11_CertifyProves_env : Env := envM [(8, New_m.c), (9, Codes_Made_m.c), (10, law11_bounds_m.c), (18, branch_Fits_m.c), (12, certify_Check_m.c), (17, law11_awake_m.c), (19, ref01_Airy_m.c), (15, certify_Flows_m.c)] [(10, [4, 5, 6, 7, 8, 42, 43, 44], [2, 4, 5, 6, 7]), (19, [11, 83, 84, 85], [2])] [(10, law11_CertifyProves_l10_m.c), (19, law11_CertifyProves_l19_m.c)] [(3, [.freeze 320, .freeze 321, .freeze 322, .freeze 323, .freeze 324, .freeze 325]), (15, [.freeze 1280, .freeze 1281])] [(10, [640, 704, 768, 1280, 1281, 1344, 2432]), (19, [3008])] 0
noncomputable def law11_CertifyProves_e : Env := { law11_CertifyProves_env with nt := 108 }
theorem law11_CertifyProves_l10_tells : LoopTells law11_CertifyProves_e (loopOf 10 Tryz.f5) law11_CertifyProves_l10_m.c := law11_CertifyProves_l10_m.tells 2816 (fun _ => by kernel_rfl) (fun _ _ _ _ => by kernel_rfl) (fun _ _ _ _ => by kernel_rfl) fun R f v N K => by kernel_rfl
theorem law11_CertifyProves_l19_tells : LoopTells law11_CertifyProves_e (loopOf 19 Tryz.f5) law11_CertifyProves_l19_m.c := law11_CertifyProves_l19_m.tells 3840 (fun _ => by kernel_rfl) (fun _ _ _ _ => by kernel_rfl) (fun _ _ _ _ => by kernel_rfl) fun R f v N K => by kernel_rfl
theorem law11_CertifyProves_tells : Tells Tryz.prog 5 law11_CertifyProves_m.c := law11_CertifyProves_m.tells Tryz.func5 (show ∀ p, arun law11_CertifyProves_env Tryz.f5 (law11_CertifyProves_m.enc p).1 (law11_CertifyProves_m.enc p).2 = _ from fun p => by kernel_rfl) (loopsL [loopOf 10 Tryz.f5, loopOf 19 Tryz.f5] (by kernel_rfl) ⟨lpT (by kernel_rfl) law11_CertifyProves_l10_tells, ⟨lpT (by kernel_rfl) law11_CertifyProves_l19_tells, trivial⟩⟩) (.cons New_tells (.cons Codes_Made_tells (.cons law11_bounds_tells (.cons branch_Fits_tells (.cons certify_Check_tells (.cons law11_awake_tells (.cons ref01_Airy_tells (.cons certify_Flows_tells .nil))))))))
noncomputable def law11_CertifyProves (codes : Sq Int) : Option (Bool) := law11_CertifyProves_m.val codes
theorem law11_CertifyProves_eq (codes : Sq Int) : law11_CertifyProves codes = (law11_CertifyProves_t codes).get := law11_CertifyProves_m.val_eq (fun x => sqD dI (gd x.1 0)) (fun p => by kernel_rfl) codes
theorem law11_CertifyProves_inj : ∀ a b, law11_CertifyProves_m.enc a = law11_CertifyProves_m.enc b → a = b := linj (fun x => sqD dI (gd x.1 0)) (fun p => by kernel_rfl)
end Go.Proofs.YtnoeblpanfbpjaaGreat.Ab
