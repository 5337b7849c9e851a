/- Mirrors of code, stage 11. -/
import Derived.Test.YtnoeblpanfbpjaaGreatXkw
import Derived.Test.YtnoeblpanfbpjaaGreatXkv
namespace Go.Proofs.YtnoeblpanfbpjaaGreat.Ab
open Go
attribute [local irreducible] arun



/-! minecontrol/minecontrollaw11.CertifyUnknown -/
noncomputable def law11_CertifyUnknown_l5_step (u5_0 _u5_1 : Int) (_u5_3 : Sq Int) (_u5_4 : Int) (_u5_5 : Sq SPlace) (_u5_6 : Sq SRoad) (_u5_7 : Sq SFan) (_u5_8 : Sq SDoor) (u5_9 _u5_10 _u5_11 _u5_12 : Sq Int) (u5_13 : Int) (u5_14 : Sq Int) : DT (LR (Int × (Sq Int)) ((Sq Int)) (Unit)) :=
 .ite (decide (u5_13 < ((u5_9.n : Nat) : Int))) (
 .ite (decide ((0 : Int) ≤ u5_13 ∧ u5_13 < ((u5_14.n : Nat) : Int))) (
 .ite ((u5_14.f (Int.toNat u5_13)) == (-1 : Int)) (
 .bind (Mod u5_0 (3 : Int)) fun z0 =>
 .ite (decide ((0 : Int) ≤ u5_13 ∧ u5_13 < ((u5_14.n : Nat) : Int))) (
 .leaf (.next ((wr (u5_13 + (1 : Int))), (Sq.mk u5_14.n (fun k0 => (cond (Nat.beq k0 (Int.toNat u5_13)) z0 (u5_14.f k0))))))) (
 .fail)) (
 .leaf (.next ((wr (u5_13 + (1 : Int))), u5_14)))) (
 .fail)) (
 .leaf (.l u5_14))
noncomputable def law11_CertifyUnknown_l5_m : LpM := ⟨Int × Int × (Sq Int) × Int × (Sq SPlace) × (Sq SRoad) × (Sq SFan) × (Sq SDoor) × (Sq Int) × (Sq Int) × (Sq Int) × (Sq Int), Int × (Sq Int), (Sq Int), Unit, fun p => ⟨[(1, .int .i64 p.1.1), (2, .int .i64 p.1.2.1), (7, .ptr 128 0), (8, .ptr 640 0), (9, .ptr 704 0), (10, .ptr 768 0), (11, .ptr 1472 0), (35, .int .i64 ((p.1.2.2.2.2.2.2.2.2.1.n : Nat) : Int)), (36, .int .i64 p.2.1)], [(128, .var [sqA 1 (eI .u8) p.1.2.2.1, .int .i64 p.1.2.2.2.1]), (320, rowA 0 2 64 SPlace.enc p.1.2.2.2.2.1), (321, rowA 0 10 71 SRoad.enc p.1.2.2.2.2.2.1), (322, rowA 0 4 99 SFan.enc p.1.2.2.2.2.2.2.1), (323, rowA 0 3 61 SDoor.enc p.1.2.2.2.2.2.2.2.1), (324, rowA 0 1 3 (eI .i64) p.1.2.2.2.2.2.2.2.2.1), (325, rowA 0 1 3 (eI .i64) p.1.2.2.2.2.2.2.2.2.2.1), (640, .var [.own 320 0, .own 321 0, .own 322 0, .own 323 0]), (704, .var [.own 324 0, .own 325 0]), (768, .var [sqA 1 (eI .i64) p.1.2.2.2.2.2.2.2.2.2.2.1, sqA 1 (eI .i64) p.1.2.2.2.2.2.2.2.2.2.2.2]), (1152, rowA 0 1 3 (eI .i64) p.2.2), (1344, rowA 0 1 3 (eI .i64) p.1.2.2.2.2.2.2.2.2.2.1), (1472, .var [.own 1152 0, .own 1344 0])], 1856⟩, fun f v => law11_CertifyUnknown_l5_step f.1 f.2.1 f.2.2.1 f.2.2.2.1 f.2.2.2.2.1 f.2.2.2.2.2.1 f.2.2.2.2.2.2.1 f.2.2.2.2.2.2.2.1 f.2.2.2.2.2.2.2.2.1 f.2.2.2.2.2.2.2.2.2.1 f.2.2.2.2.2.2.2.2.2.2.1 f.2.2.2.2.2.2.2.2.2.2.2 v.1 v.2, true, (.exit 0), (fun x a => ⟨[(2, aget x.tm 2), (7, .ptr 128 0), (8, .ptr 640 0), (9, .ptr 704 0), (10, .ptr 768 0), (11, .ptr 1472 0)], [(128, blkS x 128), (320, blkS x 320), (321, blkS x 321), (322, blkS x 322), (323, blkS x 323), (324, blkS x 324), (325, blkS x 325), (640, .var [.own 320 0, .own 321 0, .own 322 0, .own 323 0]), (704, .var [.own 324 0, .own 325 0]), (768, blkS x 768), (1152, rowA 0 1 3 (eI .i64) a), (1344, blkS x 1344), (1472, .var [.own 1152 0, .own 1344 0])], 1856⟩), .ret, (fun _ _ => ⟨[], [], 0⟩), c1, c1k⟩
noncomputable def law11_CertifyUnknown_l5 (u5_0 u5_1 : Int) (u5_3 : Sq Int) (u5_4 : Int) (u5_5 : Sq SPlace) (u5_6 : Sq SRoad) (u5_7 : Sq SFan) (u5_8 : Sq SDoor) (u5_9 u5_10 u5_11 u5_12 : Sq Int) (u5_13 : Int) (u5_14 : Sq Int) : Option (((Sq Int)) ⊕ (Unit)) := law11_CertifyUnknown_l5_m.val ((u5_0, u5_1, u5_3, u5_4, u5_5, u5_6, u5_7, u5_8, u5_9, u5_10, u5_11, u5_12), (u5_13, u5_14))
theorem law11_CertifyUnknown_l5_eq (u5_0 u5_1 : Int) (u5_3 : Sq Int) (u5_4 : Int) (u5_5 : Sq SPlace) (u5_6 : Sq SRoad) (u5_7 : Sq SFan) (u5_8 : Sq SDoor) (u5_9 u5_10 u5_11 u5_12 : Sq Int) (u5_13 : Int) (u5_14 : Sq Int) : law11_CertifyUnknown_l5 u5_0 u5_1 u5_3 u5_4 u5_5 u5_6 u5_7 u5_8 u5_9 u5_10 u5_11 u5_12 u5_13 u5_14 = fixO (fun v : Int × (Sq Int) => law11_CertifyUnknown_l5_step u5_0 u5_1 u5_3 u5_4 u5_5 u5_6 u5_7 u5_8 u5_9 u5_10 u5_11 u5_12 v.1 v.2) (u5_13, u5_14) := law11_CertifyUnknown_l5_m.val_eq (fun x => ((intA (aget x.tm 1), intA (aget x.tm 2), sqD dI (cellS x 128 0), intA (cellS x 128 1), sqB SPlace.dec (blkS x 320), sqB SRoad.dec (blkS x 321), sqB SFan.dec (blkS x 322), sqB SDoor.dec (blkS x 323), sqB dI (blkS x 324), sqB dI (blkS x 325), sqD dI (cellS x 768 0), sqD dI (cellS x 768 1)), (intA (aget x.tm 36), sqB dI (blkS x 1152)))) (fun p => by kernel_rfl) ((u5_0, u5_1, u5_3, u5_4, u5_5, u5_6, u5_7, u5_8, u5_9, u5_10, u5_11, u5_12), (u5_13, u5_14))
noncomputable def law11_CertifyUnknown_l11_step (u11_0 : Int) (_u11_2 : Sq Int) (_u11_3 : Int) (_u11_4 : Sq SPlace) (_u11_5 : Sq SRoad) (_u11_6 : Sq SFan) (u11_7 : Sq SDoor) (_u11_8 u11_9 _u11_10 _u11_11 _u11_12 : Sq Int) (u11_13 : Int) (u11_14 : Sq Int) : DT (LR (Int × (Sq Int)) ((Sq Int)) (Unit)) :=
 .ite (decide (u11_13 < ((u11_9.n : Nat) : Int))) (
 .ite (decide ((0 : Int) ≤ u11_13 ∧ u11_13 < ((u11_14.n : Nat) : Int))) (
 .ite ((u11_14.f (Int.toNat u11_13)) == (-1 : Int)) (
 .ite (decide ((0 : Int) ≤ u11_13 ∧ u11_13 < ((u11_7.n : Nat) : Int))) (
 .bind (Mod u11_0 (((u11_7.f (Int.toNat u11_13)).Rests.n : Nat) : Int)) fun z1 =>
 .ite (decide ((0 : Int) ≤ u11_13 ∧ u11_13 < ((u11_14.n : Nat) : Int))) (
 .leaf (.next ((wr (u11_13 + (1 : Int))), (Sq.mk u11_14.n (fun k1 => (cond (Nat.beq k1 (Int.toNat u11_13)) z1 (u11_14.f k1))))))) (
 .fail)) (
 .fail)) (
 .leaf (.next ((wr (u11_13 + (1 : Int))), u11_14)))) (
 .fail)) (
 .leaf (.l u11_14))
noncomputable def law11_CertifyUnknown_l11_m : LpM := ⟨Int × (Sq Int) × Int × (Sq SPlace) × (Sq SRoad) × (Sq SFan) × (Sq SDoor) × (Sq Int) × (Sq Int) × (Sq Int) × (Sq Int) × (Sq Int), Int × (Sq Int), (Sq Int), Unit, fun p => ⟨[(2, .int .i64 p.1.1), (7, .ptr 128 0), (8, .ptr 640 0), (9, .ptr 704 0), (10, .ptr 768 0), (11, .ptr 1472 0), (54, .int .i64 ((p.1.2.2.2.2.2.2.2.2.1.n : Nat) : Int)), (55, .int .i64 p.2.1)], [(128, .var [sqA 1 (eI .u8) p.1.2.1, .int .i64 p.1.2.2.1]), (320, rowA 0 2 64 SPlace.enc p.1.2.2.2.1), (321, rowA 0 10 71 SRoad.enc p.1.2.2.2.2.1), (322, rowA 0 4 99 SFan.enc p.1.2.2.2.2.2.1), (323, rowA 0 3 61 SDoor.enc p.1.2.2.2.2.2.2.1), (324, rowA 0 1 3 (eI .i64) p.1.2.2.2.2.2.2.2.1), (325, rowA 0 1 3 (eI .i64) p.1.2.2.2.2.2.2.2.2.1), (640, .var [.own 320 0, .own 321 0, .own 322 0, .own 323 0]), (704, .var [.own 324 0, .own 325 0]), (768, .var [sqA 1 (eI .i64) p.1.2.2.2.2.2.2.2.2.2.1, sqA 1 (eI .i64) p.1.2.2.2.2.2.2.2.2.2.2.1]), (1152, rowA 0 1 3 (eI .i64) p.1.2.2.2.2.2.2.2.2.2.2.2), (1344, rowA 0 1 3 (eI .i64) p.2.2), (1472, .var [.own 1152 0, .own 1344 0])], 2112⟩, fun f v => law11_CertifyUnknown_l11_step f.1 f.2.1 f.2.2.1 f.2.2.2.1 f.2.2.2.2.1 f.2.2.2.2.2.1 f.2.2.2.2.2.2.1 f.2.2.2.2.2.2.2.1 f.2.2.2.2.2.2.2.2.1 f.2.2.2.2.2.2.2.2.2.1 f.2.2.2.2.2.2.2.2.2.2.1 f.2.2.2.2.2.2.2.2.2.2.2 v.1 v.2, true, (.exit 2), (fun x a => ⟨[(7, .ptr 128 0), (8, .ptr 640 0), (9, .ptr 704 0), (10, .ptr 768 0), (11, .ptr 1472 0)], [(128, blkS x 128), (320, blkS x 320), (321, blkS x 321), (322, blkS x 322), (323, blkS x 323), (324, blkS x 324), (325, blkS x 325), (640, .var [.own 320 0, .own 321 0, .own 322 0, .own 323 0]), (704, .var [.own 324 0, .own 325 0]), (768, blkS x 768), (1152, blkS x 1152), (1344, rowA 0 1 3 (eI .i64) a), (1472, .var [.own 1152 0, .own 1344 0])], 2112⟩), .ret, (fun _ _ => ⟨[], [], 0⟩), c1, c1k⟩
noncomputable def law11_CertifyUnknown_l11 (u11_0 : Int) (u11_2 : Sq Int) (u11_3 : Int) (u11_4 : Sq SPlace) (u11_5 : Sq SRoad) (u11_6 : Sq SFan) (u11_7 : Sq SDoor) (u11_8 u11_9 u11_10 u11_11 u11_12 : Sq Int) (u11_13 : Int) (u11_14 : Sq Int) : Option (((Sq Int)) ⊕ (Unit)) := law11_CertifyUnknown_l11_m.val ((u11_0, u11_2, u11_3, u11_4, u11_5, u11_6, u11_7, u11_8, u11_9, u11_10, u11_11, u11_12), (u11_13, u11_14))
theorem law11_CertifyUnknown_l11_eq (u11_0 : Int) (u11_2 : Sq Int) (u11_3 : Int) (u11_4 : Sq SPlace) (u11_5 : Sq SRoad) (u11_6 : Sq SFan) (u11_7 : Sq SDoor) (u11_8 u11_9 u11_10 u11_11 u11_12 : Sq Int) (u11_13 : Int) (u11_14 : Sq Int) : law11_CertifyUnknown_l11 u11_0 u11_2 u11_3 u11_4 u11_5 u11_6 u11_7 u11_8 u11_9 u11_10 u11_11 u11_12 u11_13 u11_14 = fixO (fun v : Int × (Sq Int) => law11_CertifyUnknown_l11_step u11_0 u11_2 u11_3 u11_4 u11_5 u11_6 u11_7 u11_8 u11_9 u11_10 u11_11 u11_12 v.1 v.2) (u11_13, u11_14) := law11_CertifyUnknown_l11_m.val_eq (fun x => ((intA (aget x.tm 2), sqD dI (cellS x 128 0), intA (cellS x 128 1), sqB SPlace.dec (blkS x 320), sqB SRoad.dec (blkS x 321), sqB SFan.dec (blkS x 322), sqB SDoor.dec (blkS x 323), sqB dI (blkS x 324), sqB dI (blkS x 325), sqD dI (cellS x 768 0), sqD dI (cellS x 768 1), sqB dI (blkS x 1152)), (intA (aget x.tm 55), sqB dI (blkS x 1344)))) (fun p => by kernel_rfl) ((u11_0, u11_2, u11_3, u11_4, u11_5, u11_6, u11_7, u11_8, u11_9, u11_10, u11_11, u11_12), (u11_13, u11_14))
noncomputable def law11_CertifyUnknown_l23_step (u23_1 u23_2 : Sq SSpan) (u23_3 : Int) : DT (LR (Int) (Unit) (Unit)) :=
 .ite (decide (u23_3 < ((u23_1.n : Nat) : Int))) (
 .ite (decide ((0 : Int) ≤ u23_3 ∧ u23_3 < ((u23_2.n : Nat) : Int))) (
 .ite (decide ((0 : Int) ≤ u23_3 ∧ u23_3 < ((u23_1.n : Nat) : Int))) (
 .ite (decide ((u23_2.f (Int.toNat u23_3)).Low < (u23_1.f (Int.toNat u23_3)).Low)) (
 .leaf (.r ())) (
 .ite (decide ((0 : Int) ≤ u23_3 ∧ u23_3 < ((u23_2.n : Nat) : Int))) (
 .ite (decide ((0 : Int) ≤ u23_3 ∧ u23_3 < ((u23_1.n : Nat) : Int))) (
 .ite (decide ((u23_2.f (Int.toNat u23_3)).High > (u23_1.f (Int.toNat u23_3)).High)) (
 .leaf (.r ())) (
 .leaf (.next (wr (u23_3 + (1 : Int)))))) (
 .fail)) (
 .fail))) (
 .fail)) (
 .fail)) (
 .leaf (.l ()))
noncomputable def law11_CertifyUnknown_l23_m : LpM := ⟨(Sq SSpan) × (Sq SSpan), Int, Unit, Unit, fun p => ⟨[(15, .own 3200 0), (16, .own 3456 0), (119, .int .i64 ((p.1.1.n : Nat) : Int)), (120, .int .i64 p.2)], [(3200, rowA 0 2 57 SSpan.enc p.1.1), (3456, rowA 0 2 57 SSpan.enc p.1.2)], 5248⟩, fun f v => law11_CertifyUnknown_l23_step f.1 f.2 v, false, (.exit 4), (fun x _ => ⟨[(6, .undef)], [(3200, blkS x 3200), (3456, blkS x 3456)], 5248⟩), .ret, (fun x _ => ⟨[(6, .bool false)], [(3200, blkS x 3200), (3456, blkS x 3456)], 5248⟩), c1, c1k⟩
noncomputable def law11_CertifyUnknown_l23 (u23_1 u23_2 : Sq SSpan) (u23_3 : Int) : Option ((Unit) ⊕ (Unit)) := law11_CertifyUnknown_l23_m.val ((u23_1, u23_2), u23_3)
theorem law11_CertifyUnknown_l23_eq (u23_1 u23_2 : Sq SSpan) (u23_3 : Int) : law11_CertifyUnknown_l23 u23_1 u23_2 u23_3 = fixO (fun v : Int => law11_CertifyUnknown_l23_step u23_1 u23_2 v) u23_3 := law11_CertifyUnknown_l23_m.val_eq (fun x => ((sqB SSpan.dec (blkS x 3200), sqB SSpan.dec (blkS x 3456)), intA (aget x.tm 120))) (fun p => by kernel_rfl) ((u23_1, u23_2), u23_3)
noncomputable def law11_CertifyUnknown_t (codes : Sq Int) (fan door : Int) : DT (Bool) :=
 .bind (New codes) fun z2 =>
 .bind (Codes_Made z2) fun z3 =>
 .ite (decide (z3.2.1.Fans.n * 8 ≤ 140737488355328 ∧ z3.2.1.Fans.n ≤ 1099511627776)) (
 .ite (decide (z3.2.1.Doors.n * 8 ≤ 140737488355328 ∧ z3.2.1.Doors.n ≤ 1099511627776)) (
 .sum (law11_CertifyUnknown_l5 fan door z2.l_ z3.2.2.2 z3.1.Mine.Places z3.1.Mine.Roads z3.1.Fans z3.1.Doors z3.2.1.Fans z3.2.1.Doors z3.2.2.1.Pressures z3.2.2.1.Flows (0 : Int) z3.2.1.Fans) (fun y0 =>
 .sum (law11_CertifyUnknown_l11 door z2.l_ z3.2.2.2 z3.1.Mine.Places z3.1.Mine.Roads z3.1.Fans z3.1.Doors z3.2.1.Fans z3.2.1.Doors z3.2.2.1.Pressures z3.2.2.1.Flows y0 (0 : Int) z3.2.1.Doors) (fun y1 =>
 .bind (law11_bounds (SCodes.mk z2.l_ z3.2.2.2) z3.1 z3.2.1 z3.2.2.1) fun z4 =>
 .bind (certify_Check z3.1 z3.2.1 z4.1) fun z5 =>
 .ite (z5 != (0 : Int)) (
 .bind (law11_awake) fun z6 =>
 .leaf z6) (
 .bind (certify_Flows z3.1 z3.2.1 z4.1) fun z7 =>
 .bind (certify_Flows z3.1 (SSetting.mk y0 y1) z4.1) fun z8 =>
 .bind (certify_Check z3.1 (SSetting.mk y0 y1) z4.1) fun z9 =>
 .ite (z9 != (0 : Int)) (
 .leaf false) (
 .ite (((z7.n : Nat) : Int) != ((z3.1.Mine.Roads.n : Nat) : Int)) (
 .leaf false) (
 .ite (((z8.n : Nat) : Int) != ((z7.n : Nat) : Int)) (
 .leaf false) (
 .sum (law11_CertifyUnknown_l23 z7 z8 (0 : Int)) (fun _ =>
 .bind (law11_awake) fun z10 =>
 .leaf z10) (fun _ => .leaf false)))))) (fun _ => .fail)) (fun _ => .fail)) (
 .fail)) (
 .fail)
noncomputable def law11_CertifyUnknown_m : FnM := flM ((Sq Int) × Int × Int) (Bool) (fun p => ([sqA 1 (eI .u8) p.1, .int .i64 p.2.1, .int .i64 p.2.2], [])) (fun p => law11_CertifyUnknown_t p.1 p.2.1 p.2.2) (fun r => .bool r) (fun _ => rfl)
noncomputable def law11_CertifyUnknown_env : Env := envM [(8, New_m.c), (9, Codes_Made_m.c), (20, Mod_m.c), (10, law11_bounds_m.c), (12, certify_Check_m.c), (17, law11_awake_m.c), (15, certify_Flows_m.c)] [(5, [1, 2, 7, 8, 9, 10, 11, 35, 36], [2, 7, 8, 9, 10, 11]), (11, [2, 7, 8, 9, 10, 11, 54, 55], [7, 8, 9, 10, 11]), (23, [15, 16, 119, 120], [6])] [(5, law11_CertifyUnknown_l5_m.c), (11, law11_CertifyUnknown_l11_m.c), (23, law11_CertifyUnknown_l23_m.c)] [(16, [.freeze 320, .freeze 321, .freeze 322, .freeze 323, .freeze 324, .freeze 325]), (19, [.freeze 2368, .freeze 2369, .freeze 1152, .freeze 1344])] [(5, [128, 320, 321, 322, 323, 324, 325, 640, 704, 768, 1152, 1344, 1472]), (11, [128, 320, 321, 322, 323, 324, 325, 640, 704, 768, 1152, 1344, 1472]), (23, [3200, 3456])] 0
noncomputable def law11_CertifyUnknown_e : Env := { law11_CertifyUnknown_env with nt := 149 }
theorem law11_CertifyUnknown_l5_tells : LoopTells law11_CertifyUnknown_e (loopOf 5 Tryz.f6) law11_CertifyUnknown_l5_m.c := law11_CertifyUnknown_l5_m.tells 1856 (fun _ => by kernel_rfl) (fun _ _ _ _ => by kernel_rfl) (fun _ _ _ _ => by kernel_rfl) fun R f v N K => by kernel_rfl
theorem law11_CertifyUnknown_l11_tells : LoopTells law11_CertifyUnknown_e (loopOf 11 Tryz.f6) law11_CertifyUnknown_l11_m.c := law11_CertifyUnknown_l11_m.tells 2112 (fun _ => by kernel_rfl) (fun _ _ _ _ => by kernel_rfl) (fun _ _ _ _ => by kernel_rfl) fun R f v N K => by kernel_rfl
theorem law11_CertifyUnknown_l23_tells : LoopTells law11_CertifyUnknown_e (loopOf 23 Tryz.f6) law11_CertifyUnknown_l23_m.c := law11_CertifyUnknown_l23_m.tells 5248 (fun _ => by kernel_rfl) (fun _ _ _ _ => by kernel_rfl) (fun _ _ _ _ => by kernel_rfl) fun R f v N K => by kernel_rfl
theorem law11_CertifyUnknown_tells : Tells Tryz.prog 6 law11_CertifyUnknown_m.c := law11_CertifyUnknown_m.tells Tryz.func6 (show ∀ p, arun law11_CertifyUnknown_env Tryz.f6 (law11_CertifyUnknown_m.enc p).1 (law11_CertifyUnknown_m.enc p).2 = _ from fun p => by kernel_rfl) (loopsL [loopOf 5 Tryz.f6, loopOf 11 Tryz.f6, loopOf 23 Tryz.f6] (by kernel_rfl) ⟨lpT (by kernel_rfl) law11_CertifyUnknown_l5_tells, ⟨lpT (by kernel_rfl) law11_CertifyUnknown_l11_tells, ⟨lpT (by kernel_rfl) law11_CertifyUnknown_l23_tells, trivial⟩⟩⟩) (.cons New_tells (.cons Codes_Made_tells (.cons Mod_tells (.cons law11_bounds_tells (.cons certify_Check_tells (.cons law11_awake_tells (.cons certify_Flows_tells .nil)))))))
noncomputable def law11_CertifyUnknown (codes : Sq Int) (fan door : Int) : Option (Bool) := law11_CertifyUnknown_m.val (codes, fan, door)
theorem law11_CertifyUnknown_eq (codes : Sq Int) (fan door : Int) : law11_CertifyUnknown codes fan door = (law11_CertifyUnknown_t codes fan door).get := law11_CertifyUnknown_m.val_eq (fun x => (sqD dI (gd x.1 0), intA (gd x.1 1), intA (gd x.1 2))) (fun p => by kernel_rfl) (codes, fan, door)
theorem law11_CertifyUnknown_inj : ∀ a b, law11_CertifyUnknown_m.enc a = law11_CertifyUnknown_m.enc b → a = b := linj (fun x => (sqD dI (gd x.1 0), intA (gd x.1 1), intA (gd x.1 2))) (fun p => by kernel_rfl)
end Go.Proofs.YtnoeblpanfbpjaaGreat.Ab
