/- Mirrors of code, stage 12. -/
import Derived.Test.YtmfiagdelnddkaaGreatXkw
import Derived.Test.YtmfiagdelnddkaaGreatXkv
namespace Go.Proofs.YtmfiagdelnddkaaGreat.Ab
noncomputable section
open Go
attribute [local irreducible] arun
def kP (_u6_1 _u6_2 : Sq Int) (_u6_3 : Sq ay) (_u6_4 : Sq aB) (_u6_5 : Sq SFan) (_u6_6 : Sq aC) (_u6_7 : Sq Int) (_u6_8 : Sq ay) (u6_9 : Sq aB) (u6_10 : Int) : DT (LR ((Sq aB) × Int) ((Sq aB)) (Unit)) :=
 .ite (decide (u6_10 < ((u6_9.n : Nat) : Int))) (
 .ite (decide ((0 : Int) ≤ u6_10 ∧ u6_10 < ((u6_9.n : Nat) : Int))) (
 .leaf (.next ((Sq.mk u6_9.n (fun k0 => (aB.mk (cond (Nat.beq k0 (Int.toNat u6_10)) (u6_9.f (Int.toNat u6_10)).From (u6_9.f k0).From) (cond (Nat.beq k0 (Int.toNat u6_10)) (u6_9.f (Int.toNat u6_10)).To (u6_9.f k0).To) (cond (Nat.beq k0 (Int.toNat u6_10)) (u6_9.f (Int.toNat u6_10)).Length (u6_9.f k0).Length) (cond (Nat.beq k0 (Int.toNat u6_10)) (u6_9.f (Int.toNat u6_10)).Area (u6_9.f k0).Area) (cond (Nat.beq k0 (Int.toNat u6_10)) (u6_9.f (Int.toNat u6_10)).Walk (u6_9.f k0).Walk) (cond (Nat.beq k0 (Int.toNat u6_10)) (u6_9.f (Int.toNat u6_10)).Closed (u6_9.f k0).Closed) (aK.mk (cond (Nat.beq k0 (Int.toNat u6_10)) (u6_9.f (Int.toNat u6_10)).Rest.Low (u6_9.f k0).Rest.Low) (cond (Nat.beq k0 (Int.toNat u6_10)) (u6_9.f (Int.toNat u6_10)).Rest.High (u6_9.f k0).Rest.High)) (aK.mk (cond (Nat.beq k0 (Int.toNat u6_10)) (wr (0 - (u6_9.f (Int.toNat u6_10)).Lift.High)) (u6_9.f k0).Lift.Low) (cond (Nat.beq k0 (Int.toNat u6_10)) (wr (0 - (u6_9.f (Int.toNat u6_10)).Lift.Low)) (u6_9.f k0).Lift.High))))), (wr (u6_10 + (1 : Int)))))) (
 .fail)) (
 .leaf (.l u6_9))
def kC : LpM := ⟨(Sq Int) × (Sq Int) × (Sq ay) × (Sq aB) × (Sq SFan) × (Sq aC) × (Sq Int) × (Sq ay), (Sq aB) × Int, (Sq aB), Unit, fun p => ⟨[(4, .ptr 640 0), (5, .ptr 704 0), (7, .own 1216 0), (8, .ptr 1920 0), (43, .int .i64 ((p.2.1.n : Nat) : Int)), (44, .int .i64 p.2.2)], [(324, rowA 0 1 3 (eI .i64) p.1.1), (325, rowA 0 1 3 (eI .i64) p.1.2.1), (640, .var [sqA 2 ay.enc p.1.2.2.1, sqA 10 aB.enc p.1.2.2.2.1, sqA 4 SFan.enc p.1.2.2.2.2.1, sqA 3 aC.enc p.1.2.2.2.2.2.1]), (704, .var [.own 324 0, .own 325 0]), (1216, rowA 0 1 3 (eI .i64) p.1.2.2.2.2.2.2.1), (1472, rowA 0 2 61 ay.enc p.1.2.2.2.2.2.2.2), (1473, rowA 0 10 70 aB.enc p.2.1), (1664, rowA 0 4 73 SFan.enc p.1.2.2.2.2.1), (1920, .var [.own 1472 0, .own 1473 0, .own 1664 0, sqA 3 aC.enc p.1.2.2.2.2.2.1])], 2368⟩, fun f v => kP f.1 f.2.1 f.2.2.1 f.2.2.2.1 f.2.2.2.2.1 f.2.2.2.2.2.1 f.2.2.2.2.2.2.1 f.2.2.2.2.2.2.2 v.1 v.2, true, (.exit 0), (fun x a => ⟨[(4, .ptr 640 0), (5, .ptr 704 0), (7, .own 1216 0), (8, .ptr 1920 0)], [(324, blkS x 324), (325, blkS x 325), (640, blkS x 640), (704, .var [.own 324 0, .own 325 0]), (1216, blkS x 1216), (1472, blkS x 1472), (1473, rowA 0 10 70 aB.enc a), (1664, blkS x 1664), (1920, blkS x 1920)], 2368⟩), .ret, (fun _ _ => ⟨[], [], 0⟩), c1, c1k⟩
def yY (u6_1 u6_2 : Sq Int) (u6_3 : Sq ay) (u6_4 : Sq aB) (u6_5 : Sq SFan) (u6_6 : Sq aC) (u6_7 : Sq Int) (u6_8 : Sq ay) (u6_9 : Sq aB) (u6_10 : Int) : Option (((Sq aB)) ⊕ (Unit)) := kC.val ((u6_1, u6_2, u6_3, u6_4, u6_5, u6_6, u6_7, u6_8), (u6_9, u6_10))
theorem K6 (u6_1 u6_2 : Sq Int) (u6_3 : Sq ay) (u6_4 : Sq aB) (u6_5 : Sq SFan) (u6_6 : Sq aC) (u6_7 : Sq Int) (u6_8 : Sq ay) (u6_9 : Sq aB) (u6_10 : Int) : yY u6_1 u6_2 u6_3 u6_4 u6_5 u6_6 u6_7 u6_8 u6_9 u6_10 = fixO (fun v : (Sq aB) × Int => kP u6_1 u6_2 u6_3 u6_4 u6_5 u6_6 u6_7 u6_8 v.1 v.2) (u6_9, u6_10) := kC.val_eq (fun x => ((sqB dI (blkS x 324), sqB dI (blkS x 325), sqD ay.dec (cellS x 640 0), sqD aB.dec (cellS x 640 1), sqD SFan.dec (cellS x 640 2), sqD aC.dec (cellS x 640 3), sqB dI (blkS x 1216), sqB ay.dec (blkS x 1472)), (sqB aB.dec (blkS x 1473), intA (aget x.tm 44)))) (fun p => by kernel_rfl) ((u6_1, u6_2, u6_3, u6_4, u6_5, u6_6, u6_7, u6_8), (u6_9, u6_10))
def jZ (_u12_1 _u12_2 : Sq Int) (_u12_3 : Sq ay) (_u12_4 : Sq aB) (u12_5 : Sq SFan) (_u12_6 : Sq aC) (_u12_7 : Sq Int) (_u12_8 : Sq ay) (_u12_9 : Sq aB) (u12_10 : Int) (u12_11 : Sq SFan) : DT (LR (Int × (Sq SFan)) ((Sq SFan)) (Unit)) :=
 .ite (decide (u12_10 < ((u12_5.n : Nat) : Int))) (
 .ite (decide ((0 : Int) ≤ u12_10 ∧ u12_10 < ((u12_11.n : Nat) : Int))) (
 .ite (decide ((0 : Int) ≤ u12_10 ∧ u12_10 < ((u12_11.n : Nat) : Int))) (
 .leaf (.next ((wr (u12_10 + (1 : Int))), (Sq.mk u12_11.n (fun k1 => (SFan.mk (cond (Nat.beq k1 (Int.toNat u12_10)) (u12_11.f (Int.toNat u12_10)).Road (u12_11.f k1).Road) (cond (Nat.beq k1 (Int.toNat u12_10)) (!(u12_11.f (Int.toNat u12_10)).Back) (u12_11.f k1).Back) (cond (Nat.beq k1 (Int.toNat u12_10)) (u12_11.f (Int.toNat u12_10)).Auxiliary (u12_11.f k1).Auxiliary) (Sq.mk (cond (Nat.beq k1 (Int.toNat u12_10)) (u12_11.f (Int.toNat u12_10)).Curve.n (u12_11.f k1).Curve.n) (fun k2 => (aM.mk (cond (Nat.beq k1 (Int.toNat u12_10)) ((u12_11.f (Int.toNat u12_10)).Curve.f k2).Flow ((u12_11.f k1).Curve.f k2).Flow) (cond (Nat.beq k1 (Int.toNat u12_10)) ((u12_11.f (Int.toNat u12_10)).Curve.f k2).Pressure ((u12_11.f k1).Curve.f k2).Pressure)))))))))) (
 .fail)) (
 .fail)) (
 .leaf (.l u12_11))
def jF : LpM := ⟨(Sq Int) × (Sq Int) × (Sq ay) × (Sq aB) × (Sq SFan) × (Sq aC) × (Sq Int) × (Sq ay) × (Sq aB), Int × (Sq SFan), (Sq SFan), Unit, fun p => ⟨[(4, .ptr 640 0), (5, .ptr 704 0), (7, .own 1216 0), (8, .ptr 1920 0), (71, .int .i64 ((p.1.2.2.2.2.1.n : Nat) : Int)), (72, .int .i64 p.2.1)], [(324, rowA 0 1 3 (eI .i64) p.1.1), (325, rowA 0 1 3 (eI .i64) p.1.2.1), (640, .var [sqA 2 ay.enc p.1.2.2.1, sqA 10 aB.enc p.1.2.2.2.1, sqA 4 SFan.enc p.1.2.2.2.2.1, sqA 3 aC.enc p.1.2.2.2.2.2.1]), (704, .var [.own 324 0, .own 325 0]), (1216, rowA 0 1 3 (eI .i64) p.1.2.2.2.2.2.2.1), (1472, rowA 0 2 61 ay.enc p.1.2.2.2.2.2.2.2.1), (1473, rowA 0 10 70 aB.enc p.1.2.2.2.2.2.2.2.2), (1664, rowA 0 4 73 SFan.enc p.2.2), (1920, .var [.own 1472 0, .own 1473 0, .own 1664 0, sqA 3 aC.enc p.1.2.2.2.2.2.1])], 2624⟩, fun f v => jZ f.1 f.2.1 f.2.2.1 f.2.2.2.1 f.2.2.2.2.1 f.2.2.2.2.2.1 f.2.2.2.2.2.2.1 f.2.2.2.2.2.2.2.1 f.2.2.2.2.2.2.2.2 v.1 v.2, true, (.exit 2), (fun x a => ⟨[(4, .ptr 640 0), (5, .ptr 704 0), (7, .own 1216 0), (8, .ptr 1920 0)], [(324, blkS x 324), (325, blkS x 325), (640, blkS x 640), (704, .var [.own 324 0, .own 325 0]), (1216, blkS x 1216), (1472, blkS x 1472), (1473, blkS x 1473), (1664, rowA 0 4 73 SFan.enc a), (1920, blkS x 1920)], 2624⟩), .ret, (fun _ _ => ⟨[], [], 0⟩), c1, c1k⟩
def xR (u12_1 u12_2 : Sq Int) (u12_3 : Sq ay) (u12_4 : Sq aB) (u12_5 : Sq SFan) (u12_6 : Sq aC) (u12_7 : Sq Int) (u12_8 : Sq ay) (u12_9 : Sq aB) (u12_10 : Int) (u12_11 : Sq SFan) : Option (((Sq SFan)) ⊕ (Unit)) := jF.val ((u12_1, u12_2, u12_3, u12_4, u12_5, u12_6, u12_7, u12_8, u12_9), (u12_10, u12_11))
theorem Jg (u12_1 u12_2 : Sq Int) (u12_3 : Sq ay) (u12_4 : Sq aB) (u12_5 : Sq SFan) (u12_6 : Sq aC) (u12_7 : Sq Int) (u12_8 : Sq ay) (u12_9 : Sq aB) (u12_10 : Int) (u12_11 : Sq SFan) : xR u12_1 u12_2 u12_3 u12_4 u12_5 u12_6 u12_7 u12_8 u12_9 u12_10 u12_11 = fixO (fun v : Int × (Sq SFan) => jZ u12_1 u12_2 u12_3 u12_4 u12_5 u12_6 u12_7 u12_8 u12_9 v.1 v.2) (u12_10, u12_11) := jF.val_eq (fun x => ((sqB dI (blkS x 324), sqB dI (blkS x 325), sqD ay.dec (cellS x 640 0), sqD aB.dec (cellS x 640 1), sqD SFan.dec (cellS x 640 2), sqD aC.dec (cellS x 640 3), sqB dI (blkS x 1216), sqB ay.dec (blkS x 1472), sqB aB.dec (blkS x 1473)), (intA (aget x.tm 72), sqB SFan.dec (blkS x 1664)))) (fun p => by kernel_rfl) ((u12_1, u12_2, u12_3, u12_4, u12_5, u12_6, u12_7, u12_8, u12_9), (u12_10, u12_11))
def j4 (_u18_1 _u18_2 : Sq Int) (_u18_3 : Sq ay) (_u18_4 : Sq aB) (_u18_5 : Sq SFan) (_u18_6 : Sq aC) (u18_7 : Sq Int) (_u18_8 : Sq ay) (_u18_9 : Sq aB) (_u18_10 : Sq SFan) (u18_11 : Sq Int) (u18_12 : Int) : DT (LR ((Sq Int) × Int) ((Sq Int)) (Unit)) :=
 .ite (decide (u18_12 < ((u18_7.n : Nat) : Int))) (
 .ite (decide ((0 : Int) ≤ u18_12 ∧ u18_12 < ((u18_7.n : Nat) : Int))) (
 .ite (decide ((0 : Int) ≤ u18_12 ∧ u18_12 < ((u18_11.n : Nat) : Int))) (
 .leaf (.next ((Sq.mk u18_11.n (fun k3 => (cond (Nat.beq k3 (Int.toNat u18_12)) (wr (0 - (u18_7.f (Int.toNat u18_12)))) (u18_11.f k3)))), (wr (u18_12 + (1 : Int)))))) (
 .fail)) (
 .fail)) (
 .leaf (.l u18_11))
def jG : LpM := ⟨(Sq Int) × (Sq Int) × (Sq ay) × (Sq aB) × (Sq SFan) × (Sq aC) × (Sq Int) × (Sq ay) × (Sq aB) × (Sq SFan), (Sq Int) × Int, (Sq Int), Unit, fun p => ⟨[(4, .ptr 640 0), (5, .ptr 704 0), (7, .own 1216 0), (8, .ptr 1920 0), (12, .own 2752 0), (92, .int .i64 ((p.1.2.2.2.2.2.2.1.n : Nat) : Int)), (93, .int .i64 p.2.2)], [(324, rowA 0 1 3 (eI .i64) p.1.1), (325, rowA 0 1 3 (eI .i64) p.1.2.1), (640, .var [sqA 2 ay.enc p.1.2.2.1, sqA 10 aB.enc p.1.2.2.2.1, sqA 4 SFan.enc p.1.2.2.2.2.1, sqA 3 aC.enc p.1.2.2.2.2.2.1]), (704, .var [.own 324 0, .own 325 0]), (1216, rowA 0 1 3 (eI .i64) p.1.2.2.2.2.2.2.1), (1472, rowA 0 2 61 ay.enc p.1.2.2.2.2.2.2.2.1), (1473, rowA 0 10 70 aB.enc p.1.2.2.2.2.2.2.2.2.1), (1664, rowA 0 4 73 SFan.enc p.1.2.2.2.2.2.2.2.2.2), (1920, .var [.own 1472 0, .own 1473 0, .own 1664 0, sqA 3 aC.enc p.1.2.2.2.2.2.1]), (2752, rowA 0 1 3 (eI .i64) p.2.1)], 3072⟩, fun f v => j4 f.1 f.2.1 f.2.2.1 f.2.2.2.1 f.2.2.2.2.1 f.2.2.2.2.2.1 f.2.2.2.2.2.2.1 f.2.2.2.2.2.2.2.1 f.2.2.2.2.2.2.2.2.1 f.2.2.2.2.2.2.2.2.2 v.1 v.2, true, (.exit 4), (fun x a => ⟨[(4, .ptr 640 0), (5, .ptr 704 0), (7, .own 1216 0), (8, .ptr 1920 0), (12, .own 2752 0)], [(324, blkS x 324), (325, blkS x 325), (640, blkS x 640), (704, .var [.own 324 0, .own 325 0]), (1216, blkS x 1216), (1472, blkS x 1472), (1473, blkS x 1473), (1664, blkS x 1664), (1920, blkS x 1920), (2752, rowA 0 1 3 (eI .i64) a)], 3072⟩), .ret, (fun _ _ => ⟨[], [], 0⟩), c1, c1k⟩
def xS (u18_1 u18_2 : Sq Int) (u18_3 : Sq ay) (u18_4 : Sq aB) (u18_5 : Sq SFan) (u18_6 : Sq aC) (u18_7 : Sq Int) (u18_8 : Sq ay) (u18_9 : Sq aB) (u18_10 : Sq SFan) (u18_11 : Sq Int) (u18_12 : Int) : Option (((Sq Int)) ⊕ (Unit)) := jG.val ((u18_1, u18_2, u18_3, u18_4, u18_5, u18_6, u18_7, u18_8, u18_9, u18_10), (u18_11, u18_12))
theorem Jh (u18_1 u18_2 : Sq Int) (u18_3 : Sq ay) (u18_4 : Sq aB) (u18_5 : Sq SFan) (u18_6 : Sq aC) (u18_7 : Sq Int) (u18_8 : Sq ay) (u18_9 : Sq aB) (u18_10 : Sq SFan) (u18_11 : Sq Int) (u18_12 : Int) : xS u18_1 u18_2 u18_3 u18_4 u18_5 u18_6 u18_7 u18_8 u18_9 u18_10 u18_11 u18_12 = fixO (fun v : (Sq Int) × Int => j4 u18_1 u18_2 u18_3 u18_4 u18_5 u18_6 u18_7 u18_8 u18_9 u18_10 v.1 v.2) (u18_11, u18_12) := jG.val_eq (fun x => ((sqB dI (blkS x 324), sqB dI (blkS x 325), sqD ay.dec (cellS x 640 0), sqD aB.dec (cellS x 640 1), sqD SFan.dec (cellS x 640 2), sqD aC.dec (cellS x 640 3), sqB dI (blkS x 1216), sqB ay.dec (blkS x 1472), sqB aB.dec (blkS x 1473), sqB SFan.dec (blkS x 1664)), (sqB dI (blkS x 2752), intA (aget x.tm 93)))) (fun p => by kernel_rfl) ((u18_1, u18_2, u18_3, u18_4, u18_5, u18_6, u18_7, u18_8, u18_9, u18_10), (u18_11, u18_12))
def dV (u27_1 u27_2 : Sq Int) (u27_3 : Int) : DT (LR (Int) (Unit) (Unit)) :=
 .ite (decide (u27_3 < ((u27_1.n : Nat) : Int))) (
 .ite (decide ((0 : Int) ≤ u27_3 ∧ u27_3 < ((u27_1.n : Nat) : Int))) (
 .ite (decide ((0 : Int) ≤ u27_3 ∧ u27_3 < ((u27_2.n : Nat) : Int))) (
 .ite ((u27_1.f (Int.toNat u27_3)) != (wr (0 - (u27_2.f (Int.toNat u27_3))))) (
 .leaf (.r ())) (
 .leaf (.next (wr (u27_3 + (1 : Int)))))) (
 .fail)) (
 .fail)) (
 .leaf (.l ()))
def jH : LpM := ⟨(Sq Int) × (Sq Int), Int, Unit, Unit, fun p => ⟨[(14, .own 3264 0), (16, .own 3840 0), (130, .int .i64 ((p.1.1.n : Nat) : Int)), (131, .int .i64 p.2)], [(3264, rowA 0 1 3 (eI .i64) p.1.1), (3840, rowA 0 1 3 (eI .i64) p.1.2)], 5120⟩, fun f v => dV f.1 f.2 v, false, (.exit 6), (fun x _ => ⟨[(2, .undef)], [(3264, blkS x 3264), (3840, blkS x 3840)], 5120⟩), .ret, (fun x _ => ⟨[(2, .bool false)], [(3264, blkS x 3264), (3840, blkS x 3840)], 5120⟩), c1, c1k⟩
def qz (u27_1 u27_2 : Sq Int) (u27_3 : Int) : Option ((Unit) ⊕ (Unit)) := jH.val ((u27_1, u27_2), u27_3)
theorem zP (u27_1 u27_2 : Sq Int) (u27_3 : Int) : qz u27_1 u27_2 u27_3 = fixO (fun v : Int => dV u27_1 u27_2 v) u27_3 := jH.val_eq (fun x => ((sqB dI (blkS x 3264), sqB dI (blkS x 3840)), intA (aget x.tm 131))) (fun p => by kernel_rfl) ((u27_1, u27_2), u27_3)
def vg (codes : Sq Int) : DT (Bool) :=
 .bind (New codes) fun z0 =>
 .bind (wW z0) fun z1 =>
 .bind (DK (aJ.mk z0.l_ z1.2.2.2) z1.1 z1.2.2.1) fun z2 =>
 .bind (Hu z1.1.Mine) fun z3 =>
 .ite (decide (z1.1.Fans.n * 40 ≤ 140737488355328 ∧ z1.1.Fans.n ≤ 1099511627776)) (
 .sum (yY z1.2.1.Fans z1.2.1.Doors z1.1.Mine.Places z1.1.Mine.Roads z1.1.Fans z1.1.Doors z2.1 z3.Places z3.Roads (0 : Int)) (fun y0 =>
 .sum (xR z1.2.1.Fans z1.2.1.Doors z1.1.Mine.Places z1.1.Mine.Roads z1.1.Fans z1.1.Doors z2.1 z3.Places y0 (0 : Int) z1.1.Fans) (fun y1 =>
 .ite (decide ((0 : Int) ≤ ((z2.1.n : Nat) : Int) ∧ ((z2.1.n : Nat) : Int) ≤ ((z2.1.n : Nat) : Int) ∧ ((z2.1.n : Nat) : Int) * ((8 : Nat) : Int) ≤ 140737488355328 ∧ ((z2.1.n : Nat) : Int) ≤ 1099511627776)) (
 .sum (xS z1.2.1.Fans z1.2.1.Doors z1.1.Mine.Places z1.1.Mine.Roads z1.1.Fans z1.1.Doors z2.1 z3.Places y0 y1 (Sq.mk (Int.toNat ((z2.1.n : Nat) : Int)) (fun _ => (0 : Int))) (0 : Int)) (fun y2 =>
 .bind (Bc z1.1 z1.2.1 z2.1) fun z4 =>
 .bind (H9 (SAir.mk (aL.mk z3.Places y0) y1 z1.1.Doors) z1.2.1 y2) fun z5 =>
 .ite (z4.2 != z5.2) (
 .leaf false) (
 .ite (((z4.1.n : Nat) : Int) != ((z5.1.n : Nat) : Int)) (
 .leaf false) (
 .sum (qz z4.1 z5.1 (0 : Int)) (fun _ =>
 .bind (fB) fun z6 =>
 .leaf z6) (fun _ => .leaf false)))) (fun _ => .fail)) (
 .fail)) (fun _ => .fail)) (fun _ => .fail)) (
 .fail)
def gG : FnM := flM ((Sq Int)) (Bool) (fun p => ([sqA 1 (eI .u8) p], [])) (fun p => vg p) (fun r => .bool r) (fun _ => rfl)
def Cq : Env := envM [(10, Uj.c), (11, iF.c), (12, jg.c), (26, rE.c), (13, pJ.c), (15, rH.c), (18, dA.c)] [(6, [4, 5, 7, 8, 43, 44], [4, 5, 7, 8]), (12, [4, 5, 7, 8, 71, 72], [4, 5, 7, 8]), (18, [4, 5, 7, 8, 12, 92, 93], [4, 5, 7, 8, 12]), (27, [14, 16, 130, 131], [2]), (2000013, [], []), (2000015, [], [])] [(6, kC.c), (12, jF.c), (18, jG.c), (27, jH.c)] [(3, [.freeze 320, .freeze 321, .freeze 322, .freeze 323]), (22, [.freeze 324, .freeze 325]), (23, [.freeze 1472, .freeze 1473, .freeze 1664])] [(6, [324, 325, 640, 704, 1216, 1472, 1473, 1664, 1920]), (12, [324, 325, 640, 704, 1216, 1472, 1473, 1664, 1920]), (18, [324, 325, 640, 704, 1216, 1472, 1473, 1664, 1920, 2752]), (27, [3264, 3840])] 0
def uZ : Env := { Cq with nt := 146 }
theorem F9 : aG uZ (aH 6 Tryz.f8) kC.c := kC.tells 2368 (fun _ => by kernel_rfl) (fun _ _ _ _ => by kernel_rfl) (fun _ _ _ _ => by kernel_rfl) fun R f v N K => by kernel_rfl
theorem EK : aG uZ (aH 12 Tryz.f8) jF.c := jF.tells 2624 (fun _ => by kernel_rfl) (fun _ _ _ _ => by kernel_rfl) (fun _ _ _ _ => by kernel_rfl) fun R f v N K => by kernel_rfl
theorem EL : aG uZ (aH 18 Tryz.f8) jG.c := jG.tells 3072 (fun _ => by kernel_rfl) (fun _ _ _ _ => by kernel_rfl) (fun _ _ _ _ => by kernel_rfl) fun R f v N K => by kernel_rfl
theorem EM : aG uZ (aH 27 Tryz.f8) jH.c := jH.tells 5120 (fun _ => by kernel_rfl) (fun _ _ _ _ => by kernel_rfl) (fun _ _ _ _ => by kernel_rfl) fun R f v N K => by kernel_rfl
theorem acH : aN Tryz.prog 8 gG.c := gG.tells Tryz.func8 (show ∀ p, arun Cq Tryz.f8 (gG.enc p).1 (gG.enc p).2 = _ from fun p => by kernel_rfl) (bf [aH 6 Tryz.f8, aH 12 Tryz.f8, aH 18 Tryz.f8, aH 27 Tryz.f8] (by kernel_rfl) ⟨lpT (by kernel_rfl) F9, ⟨lpT (by kernel_rfl) EK, ⟨lpT (by kernel_rfl) EL, ⟨lpT (by kernel_rfl) EM, trivial⟩⟩⟩⟩) (.cons Df (.cons kQ (.cons AY (.cons KF (.cons BX (.cons KP (.cons jR .nil)))))))
def WU (codes : Sq Int) : Option (Bool) := gG.val codes
theorem aeF (codes : Sq Int) : WU codes = (vg codes).get := gG.val_eq (fun x => sqD dI (gd x.1 0)) (fun p => by kernel_rfl) codes
theorem ad2 : ∀ a b, gG.enc a = gG.enc b → a = b := linj (fun x => sqD dI (gd x.1 0)) (fun p => by kernel_rfl)
end
end Go.Proofs.YtmfiagdelnddkaaGreat.Ab
