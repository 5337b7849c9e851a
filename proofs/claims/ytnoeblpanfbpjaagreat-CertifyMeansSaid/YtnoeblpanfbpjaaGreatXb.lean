/- Mirrors of code, stage 11. -/
import Derived.Test.YtnoeblpanfbpjaaGreatXa
namespace Go.Proofs.YtnoeblpanfbpjaaGreat.Ab
open Go
attribute [local irreducible] arun



/-! minecontrol/minecontrolref01.Span -/
noncomputable def ref01_Span_t (s : SSpan) (low high : Int) : DT (Bool) :=
 .ite (decide (low ≤ s.Low)) (
 .ite (decide (s.Low ≤ s.High)) (.leaf (decide (s.High ≤ high))) (.leaf false)) (
 .leaf false)
noncomputable def ref01_Span_m : FnM := flM (SSpan × Int × Int) (Bool) (fun p => ([.agg (SSpan.enc p.1), .int .i64 p.2.1, .int .i64 p.2.2], [])) (fun p => ref01_Span_t p.1 p.2.1 p.2.2) (fun r => .bool r) (fun _ => rfl)
noncomputable def ref01_Span_env : Env := envM [] [] [] [] [] 0
theorem ref01_Span_tells : Tells Tryz.prog 88 ref01_Span_m.c := ref01_Span_m.tells Tryz.func88 (show ∀ p, arun ref01_Span_env Tryz.f88 (ref01_Span_m.enc p).1 (ref01_Span_m.enc p).2 = _ from fun p => by kernel_rfl) noLoops .nil
noncomputable def ref01_Span (s : SSpan) (low high : Int) : Option (Bool) := ref01_Span_m.val (s, low, high)
theorem ref01_Span_eq (s : SSpan) (low high : Int) : ref01_Span s low high = (ref01_Span_t s low high).get := ref01_Span_m.val_eq (fun x => (SSpan.dec (aggL (gd x.1 0)), intA (gd x.1 1), intA (gd x.1 2))) (fun p => by kernel_rfl) (s, low, high)

/-! minecontrol/minecontrolref01.Check -/
noncomputable def ref01_Check_l4_step (u4_0 : Sq SPlace) (_u4_1 : Sq SRoad) (u4_2 : Int) : DT (LR (Int) (Unit) (Unit)) :=
 .ite (decide (u4_2 < ((u4_0.n : Nat) : Int))) (
 .ite (decide ((0 : Int) ≤ u4_2 ∧ u4_2 < ((u4_0.n : Nat) : Int))) (
 .ite (decide ((u4_0.f (Int.toNat u4_2)).Height < (-10000 : Int))) (
 .leaf (.r ())) (
 .ite (decide ((u4_0.f (Int.toNat u4_2)).Height > (10000 : Int))) (
 .leaf (.r ())) (
 .leaf (.next (wr (u4_2 + (1 : Int))))))) (
 .fail)) (
 .leaf (.l ()))
noncomputable def ref01_Check_l4_m : LpM := ⟨(Sq SPlace) × (Sq SRoad), Int, Unit, Unit, fun p => ⟨[(1, .ptr 0 0), (3, .int .i64 p.2)], [(0, .var [sqA 2 SPlace.enc p.1.1, sqA 10 SRoad.enc p.1.2])], 896⟩, fun f v => ref01_Check_l4_step f.1 f.2 v, false, (.exit 0), (fun x _ => ⟨[(1, .ptr 0 0), (2, .undef)], [(0, blkS x 0)], 896⟩), .ret, (fun x _ => ⟨[(1, .ptr 0 0), (2, .int .i64 (1 : Int))], [(0, blkS x 0)], 896⟩), c1, c1k⟩
noncomputable def ref01_Check_l4 (u4_0 : Sq SPlace) (u4_1 : Sq SRoad) (u4_2 : Int) : Option ((Unit) ⊕ (Unit)) := ref01_Check_l4_m.val ((u4_0, u4_1), u4_2)
theorem ref01_Check_l4_eq (u4_0 : Sq SPlace) (u4_1 : Sq SRoad) (u4_2 : Int) : ref01_Check_l4 u4_0 u4_1 u4_2 = fixO (fun v : Int => ref01_Check_l4_step u4_0 u4_1 v) u4_2 := ref01_Check_l4_m.val_eq (fun x => ((sqD SPlace.dec (cellS x 0 0), sqD SRoad.dec (cellS x 0 1)), intA (aget x.tm 3))) (fun p => by kernel_rfl) ((u4_0, u4_1), u4_2)
noncomputable def ref01_Check_l10_step (u10_0 : Sq SPlace) (u10_1 : Sq SRoad) (u10_2 : Int) : DT (LR (Int) (Unit) (Int)) :=
 .ite (decide (u10_2 < ((u10_1.n : Nat) : Int))) (
 .ite (decide ((0 : Int) ≤ u10_2 ∧ u10_2 < ((u10_1.n : Nat) : Int))) (
 .ite (decide ((u10_1.f (Int.toNat u10_2)).From < (0 : Int))) (
 .leaf (.r (4 : Int))) (
 .ite (decide ((u10_1.f (Int.toNat u10_2)).From ≥ ((u10_0.n : Nat) : Int))) (
 .leaf (.r (4 : Int))) (
 .ite (decide ((u10_1.f (Int.toNat u10_2)).To < (0 : Int))) (
 .leaf (.r (4 : Int))) (
 .ite (decide ((u10_1.f (Int.toNat u10_2)).To ≥ ((u10_0.n : Nat) : Int))) (
 .leaf (.r (4 : Int))) (
 .ite ((u10_1.f (Int.toNat u10_2)).From == (u10_1.f (Int.toNat u10_2)).To) (
 .leaf (.r (4 : Int))) (
 .ite (decide ((u10_1.f (Int.toNat u10_2)).Length < (1 : Int))) (
 .leaf (.r (1 : Int))) (
 .ite (decide ((u10_1.f (Int.toNat u10_2)).Length > (100000 : Int))) (
 .leaf (.r (1 : Int))) (
 .ite (decide ((u10_1.f (Int.toNat u10_2)).Area < (1 : Int))) (
 .leaf (.r (1 : Int))) (
 .ite (decide ((u10_1.f (Int.toNat u10_2)).Area > (1000 : Int))) (
 .leaf (.r (1 : Int))) (
 .bind (ref01_Span (u10_1.f (Int.toNat u10_2)).Rest (1 : Int) (262144 : Int)) fun z0 =>
 .ite (!z0) (
 .leaf (.r (1 : Int))) (
 .bind (ref01_Span (u10_1.f (Int.toNat u10_2)).Lift (-2199023255552 : Int) (2199023255552 : Int)) fun z1 =>
 .ite (!z1) (
 .leaf (.r (1 : Int))) (
 .leaf (.next (wr (u10_2 + (1 : Int)))))))))))))))) (
 .fail)) (
 .leaf (.l ()))
noncomputable def ref01_Check_l10_m : LpM := ⟨(Sq SPlace) × (Sq SRoad), Int, Unit, Int, fun p => ⟨[(1, .ptr 0 0), (5, .int .i64 p.2)], [(0, .var [sqA 2 SPlace.enc p.1.1, sqA 10 SRoad.enc p.1.2])], 960⟩, fun f v => ref01_Check_l10_step f.1 f.2 v, false, (.exit 2), (fun x _ => ⟨[(2, .undef)], [(0, blkS x 0)], 960⟩), .ret, (fun x a => ⟨[(2, .int .i64 a)], [(0, blkS x 0)], 960⟩), c1, c1k⟩
noncomputable def ref01_Check_l10 (u10_0 : Sq SPlace) (u10_1 : Sq SRoad) (u10_2 : Int) : Option ((Unit) ⊕ (Int)) := ref01_Check_l10_m.val ((u10_0, u10_1), u10_2)
theorem ref01_Check_l10_eq (u10_0 : Sq SPlace) (u10_1 : Sq SRoad) (u10_2 : Int) : ref01_Check_l10 u10_0 u10_1 u10_2 = fixO (fun v : Int => ref01_Check_l10_step u10_0 u10_1 v) u10_2 := ref01_Check_l10_m.val_eq (fun x => ((sqD SPlace.dec (cellS x 0 0), sqD SRoad.dec (cellS x 0 1)), intA (aget x.tm 5))) (fun p => by kernel_rfl) ((u10_0, u10_1), u10_2)
noncomputable def ref01_Check_t (m : SMine) : DT (Int) :=
 .ite (decide (((m.Places.n : Nat) : Int) > (64 : Int))) (
 .leaf (2 : Int)) (
 .ite (decide (((m.Roads.n : Nat) : Int) > (128 : Int))) (
 .leaf (2 : Int)) (
 .sum (ref01_Check_l4 m.Places m.Roads (0 : Int)) (fun _ =>
 .sum (ref01_Check_l10 m.Places m.Roads (0 : Int)) (fun _ =>
 .leaf (0 : Int)) (fun y0 => .leaf y0)) (fun _ => .leaf (1 : Int))))
noncomputable def ref01_Check_m : FnM := flM (SMine) (Int) (fun p => ([.agg (SMine.enc p)], [])) (fun p => ref01_Check_t p) (fun r => .int .i64 r) (fun _ => rfl)
noncomputable def ref01_Check_env : Env := envM [(88, ref01_Span_m.c)] [(4, [1, 3], [1, 2]), (10, [1, 5], [2])] [(4, ref01_Check_l4_m.c), (10, ref01_Check_l10_m.c)] [] [(4, [0]), (10, [0])] 0
noncomputable def ref01_Check_e : Env := { ref01_Check_env with nt := 109 }
theorem ref01_Check_l4_tells : LoopTells ref01_Check_e (loopOf 4 Tryz.f65) ref01_Check_l4_m.c := ref01_Check_l4_m.tells 896 (fun _ => by kernel_rfl) (fun _ _ _ _ => by kernel_rfl) (fun _ _ _ _ => by kernel_rfl) fun R f v N K => by kernel_rfl
theorem ref01_Check_l10_tells : LoopTells ref01_Check_e (loopOf 10 Tryz.f65) ref01_Check_l10_m.c := ref01_Check_l10_m.tells 960 (fun _ => by kernel_rfl) (fun _ _ _ _ => by kernel_rfl) (fun _ _ _ _ => by kernel_rfl) fun R f v N K => by kernel_rfl
theorem ref01_Check_tells : Tells Tryz.prog 65 ref01_Check_m.c := ref01_Check_m.tells Tryz.func65 (show ∀ p, arun ref01_Check_env Tryz.f65 (ref01_Check_m.enc p).1 (ref01_Check_m.enc p).2 = _ from fun p => by kernel_rfl) (loopsL [loopOf 4 Tryz.f65, loopOf 10 Tryz.f65] (by kernel_rfl) ⟨lpT (by kernel_rfl) ref01_Check_l4_tells, ⟨lpT (by kernel_rfl) ref01_Check_l10_tells, trivial⟩⟩) (.cons ref01_Span_tells .nil)
noncomputable def ref01_Check (m : SMine) : Option (Int) := ref01_Check_m.val m
theorem ref01_Check_eq (m : SMine) : ref01_Check m = (ref01_Check_t m).get := ref01_Check_m.val_eq (fun x => SMine.dec (aggL (gd x.1 0))) (fun p => by kernel_rfl) m

/-! minecontrol/minecontrolref07.Check -/
noncomputable def ref07_Check_l6_step (_u6_0 : Int) (_u6_1 _u6_2 : Bool) (u6_3 : Sq SPoint) (u6_4 : Int) : DT (LR (Int) (Unit) (Int)) :=
 .ite (decide (u6_4 < ((u6_3.n : Nat) : Int))) (
 .ite (decide ((0 : Int) ≤ u6_4 ∧ u6_4 < ((u6_3.n : Nat) : Int))) (
 .ite (decide ((u6_3.f (Int.toNat u6_4)).Flow < (-1048576 : Int))) (
 .leaf (.r (1 : Int))) (
 .ite (decide ((u6_3.f (Int.toNat u6_4)).Flow > (1048576 : Int))) (
 .leaf (.r (1 : Int))) (
 .ite (decide ((u6_3.f (Int.toNat u6_4)).Pressure < (0 : Int))) (
 .leaf (.r (1 : Int))) (
 .ite (decide ((u6_3.f (Int.toNat u6_4)).Pressure > (2199023255552 : Int))) (
 .leaf (.r (1 : Int))) (
 .ite (decide (u6_4 > (0 : Int))) (
 .ite (decide ((0 : Int) ≤ (wr (u6_4 - (1 : Int))) ∧ (wr (u6_4 - (1 : Int))) < ((u6_3.n : Nat) : Int))) (
 .ite (decide ((u6_3.f (Int.toNat u6_4)).Flow ≤ (u6_3.f (Int.toNat (wr (u6_4 - (1 : Int))))).Flow)) (
 .leaf (.r (14 : Int))) (
 .ite (decide ((0 : Int) ≤ (wr (u6_4 - (1 : Int))) ∧ (wr (u6_4 - (1 : Int))) < ((u6_3.n : Nat) : Int))) (
 .ite (decide ((u6_3.f (Int.toNat u6_4)).Pressure > (u6_3.f (Int.toNat (wr (u6_4 - (1 : Int))))).Pressure)) (
 .leaf (.r (14 : Int))) (
 .leaf (.next (wr (u6_4 + (1 : Int)))))) (
 .fail))) (
 .fail)) (
 .leaf (.next (wr (u6_4 + (1 : Int)))))))))) (
 .fail)) (
 .leaf (.l ()))
noncomputable def ref07_Check_l6_m : LpM := ⟨Int × Bool × Bool × (Sq SPoint), Int, Unit, Int, fun p => ⟨[(1, .ptr 0 0), (3, .int .i64 p.2)], [(0, .var [.int .i64 p.1.1, .bool p.1.2.1, .bool p.1.2.2.1, sqA 2 SPoint.enc p.1.2.2.2])], 1152⟩, fun f v => ref07_Check_l6_step f.1 f.2.1 f.2.2.1 f.2.2.2 v, false, (.exit 0), (fun x _ => ⟨[(2, .undef)], [(0, blkS x 0)], 1152⟩), .ret, (fun x a => ⟨[(2, .int .i64 a)], [(0, blkS x 0)], 1152⟩), c1, c1k⟩
noncomputable def ref07_Check_l6 (u6_0 : Int) (u6_1 u6_2 : Bool) (u6_3 : Sq SPoint) (u6_4 : Int) : Option ((Unit) ⊕ (Int)) := ref07_Check_l6_m.val ((u6_0, u6_1, u6_2, u6_3), u6_4)
theorem ref07_Check_l6_eq (u6_0 : Int) (u6_1 u6_2 : Bool) (u6_3 : Sq SPoint) (u6_4 : Int) : ref07_Check_l6 u6_0 u6_1 u6_2 u6_3 u6_4 = fixO (fun v : Int => ref07_Check_l6_step u6_0 u6_1 u6_2 u6_3 v) u6_4 := ref07_Check_l6_m.val_eq (fun x => ((intA (cellS x 0 0), boolA (cellS x 0 1), boolA (cellS x 0 2), sqD SPoint.dec (cellS x 0 3)), intA (aget x.tm 3))) (fun p => by kernel_rfl) ((u6_0, u6_1, u6_2, u6_3), u6_4)
noncomputable def ref07_Check_t (f : SFan) : DT (Int) :=
 .ite (decide (f.Road < (0 : Int))) (
 .leaf (4 : Int)) (
 .ite (decide (((f.Curve.n : Nat) : Int) < (1 : Int))) (
 .leaf (2 : Int)) (
 .ite (decide (((f.Curve.n : Nat) : Int) > (8 : Int))) (
 .leaf (2 : Int)) (
 .sum (ref07_Check_l6 f.Road f.Back f.Auxiliary f.Curve (0 : Int)) (fun _ =>
 .leaf (0 : Int)) (fun y0 => .leaf y0))))
noncomputable def ref07_Check_m : FnM := flM (SFan) (Int) (fun p => ([.agg (SFan.enc p)], [])) (fun p => ref07_Check_t p) (fun r => .int .i64 r) (fun _ => rfl)
noncomputable def ref07_Check_env : Env := envM [] [(6, [1, 3], [2])] [(6, ref07_Check_l6_m.c)] [] [(6, [0])] 0
noncomputable def ref07_Check_e : Env := { ref07_Check_env with nt := 74 }
theorem ref07_Check_l6_tells : LoopTells ref07_Check_e (loopOf 6 Tryz.f66) ref07_Check_l6_m.c := ref07_Check_l6_m.tells 1152 (fun _ => by kernel_rfl) (fun _ _ _ _ => by kernel_rfl) (fun _ _ _ _ => by kernel_rfl) fun R f v N K => by kernel_rfl
theorem ref07_Check_tells : Tells Tryz.prog 66 ref07_Check_m.c := ref07_Check_m.tells Tryz.func66 (show ∀ p, arun ref07_Check_env Tryz.f66 (ref07_Check_m.enc p).1 (ref07_Check_m.enc p).2 = _ from fun p => by kernel_rfl) (loopsL [loopOf 6 Tryz.f66] (by kernel_rfl) ⟨lpT (by kernel_rfl) ref07_Check_l6_tells, trivial⟩) .nil
noncomputable def ref07_Check (f : SFan) : Option (Int) := ref07_Check_m.val f
theorem ref07_Check_eq (f : SFan) : ref07_Check f = (ref07_Check_t f).get := ref07_Check_m.val_eq (fun x => SFan.dec (aggL (gd x.1 0))) (fun p => by kernel_rfl) f

/-! minecontrol/minecontrolref08.Check -/
noncomputable def ref08_Check_l12_step (_u12_0 : Sq SDoor) (_u12_1 _u12_2 : Int) (u12_3 : Sq Int) (_u12_5 u12_4 : Int) : DT (LR (Int) (Unit) (Unit)) :=
 .ite (decide (u12_4 < ((u12_3.n : Nat) : Int))) (
 .ite (decide ((0 : Int) ≤ u12_4 ∧ u12_4 < ((u12_3.n : Nat) : Int))) (
 .ite (decide ((u12_3.f (Int.toNat u12_4)) < (0 : Int))) (
 .leaf (.r ())) (
 .ite (decide ((0 : Int) ≤ u12_4 ∧ u12_4 < ((u12_3.n : Nat) : Int))) (
 .ite (decide ((u12_3.f (Int.toNat u12_4)) > (262144 : Int))) (
 .leaf (.r ())) (
 .leaf (.next (wr (u12_4 + (1 : Int)))))) (
 .fail))) (
 .fail)) (
 .leaf (.l ()))
noncomputable def ref08_Check_l12_m : LpM := ⟨(Sq SDoor) × Int × Int × (Sq Int) × Int, Int, Unit, Unit, fun p => ⟨[(0, sqA 3 SDoor.enc p.1.1), (3, .int .i64 p.1.2.2.2.2), (4, .ptr 896 0), (5, .int .i64 p.2)], [(896, .var [.int .i64 p.1.2.1, .int .i64 p.1.2.2.1, sqA 1 (eI .i64) p.1.2.2.2.1])], 2048⟩, fun f v => ref08_Check_l12_step f.1 f.2.1 f.2.2.1 f.2.2.2.1 f.2.2.2.2 v, false, (.exit 2), (fun x _ => ⟨[(0, aget x.tm 0), (2, .undef), (3, aget x.tm 3), (4, .ptr 896 0)], [(896, blkS x 896)], 2048⟩), .ret, (fun x _ => ⟨[(0, aget x.tm 0), (2, .int .i64 (1 : Int)), (3, aget x.tm 3), (4, .ptr 896 0)], [(896, blkS x 896)], 2048⟩), c1, c1k⟩
noncomputable def ref08_Check_l12 (u12_0 : Sq SDoor) (u12_1 u12_2 : Int) (u12_3 : Sq Int) (u12_5 u12_4 : Int) : Option ((Unit) ⊕ (Unit)) := ref08_Check_l12_m.val ((u12_0, u12_1, u12_2, u12_3, u12_5), u12_4)
theorem ref08_Check_l12_eq (u12_0 : Sq SDoor) (u12_1 u12_2 : Int) (u12_3 : Sq Int) (u12_5 u12_4 : Int) : ref08_Check_l12 u12_0 u12_1 u12_2 u12_3 u12_5 u12_4 = fixO (fun v : Int => ref08_Check_l12_step u12_0 u12_1 u12_2 u12_3 u12_5 v) u12_4 := ref08_Check_l12_m.val_eq (fun x => ((sqD SDoor.dec (aget x.tm 0), intA (cellS x 896 0), intA (cellS x 896 1), sqD dI (cellS x 896 2), intA (aget x.tm 3)), intA (aget x.tm 5))) (fun p => by kernel_rfl) ((u12_0, u12_1, u12_2, u12_3, u12_5), u12_4)
noncomputable def ref08_Check_l17_step (_u17_0 : Sq SDoor) (_u17_1 _u17_2 : Int) (u17_3 : Sq Int) (_u17_5 u17_4 : Int) : DT (LR (Int) (Unit) (Unit)) :=
 .ite (decide (u17_4 < ((u17_3.n : Nat) : Int))) (
 .ite (decide ((0 : Int) ≤ u17_4 ∧ u17_4 < ((u17_3.n : Nat) : Int))) (
 .ite (decide ((0 : Int) ≤ (wr (u17_4 - (1 : Int))) ∧ (wr (u17_4 - (1 : Int))) < ((u17_3.n : Nat) : Int))) (
 .ite (decide ((u17_3.f (Int.toNat u17_4)) ≥ (u17_3.f (Int.toNat (wr (u17_4 - (1 : Int))))))) (
 .leaf (.r ())) (
 .leaf (.next (wr (u17_4 + (1 : Int)))))) (
 .fail)) (
 .fail)) (
 .leaf (.l ()))
noncomputable def ref08_Check_l17_m : LpM := ⟨(Sq SDoor) × Int × Int × (Sq Int) × Int, Int, Unit, Unit, fun p => ⟨[(0, sqA 3 SDoor.enc p.1.1), (3, .int .i64 p.1.2.2.2.2), (4, .ptr 896 0), (6, .int .i64 p.2)], [(896, .var [.int .i64 p.1.2.1, .int .i64 p.1.2.2.1, sqA 1 (eI .i64) p.1.2.2.2.1])], 2112⟩, fun f v => ref08_Check_l17_step f.1 f.2.1 f.2.2.1 f.2.2.2.1 f.2.2.2.2 v, false, (.exit 4), (fun x _ => ⟨[(0, aget x.tm 0), (2, .undef), (3, aget x.tm 3), (4, .ptr 896 0)], [(896, blkS x 896)], 2112⟩), .ret, (fun x _ => ⟨[(0, aget x.tm 0), (2, .int .i64 (15 : Int)), (3, aget x.tm 3), (4, .ptr 896 0)], [(896, blkS x 896)], 2112⟩), c1, c1k⟩
noncomputable def ref08_Check_l17 (u17_0 : Sq SDoor) (u17_1 u17_2 : Int) (u17_3 : Sq Int) (u17_5 u17_4 : Int) : Option ((Unit) ⊕ (Unit)) := ref08_Check_l17_m.val ((u17_0, u17_1, u17_2, u17_3, u17_5), u17_4)
theorem ref08_Check_l17_eq (u17_0 : Sq SDoor) (u17_1 u17_2 : Int) (u17_3 : Sq Int) (u17_5 u17_4 : Int) : ref08_Check_l17 u17_0 u17_1 u17_2 u17_3 u17_5 u17_4 = fixO (fun v : Int => ref08_Check_l17_step u17_0 u17_1 u17_2 u17_3 u17_5 v) u17_4 := ref08_Check_l17_m.val_eq (fun x => ((sqD SDoor.dec (aget x.tm 0), intA (cellS x 896 0), intA (cellS x 896 1), sqD dI (cellS x 896 2), intA (aget x.tm 3)), intA (aget x.tm 6))) (fun p => by kernel_rfl) ((u17_0, u17_1, u17_2, u17_3, u17_5), u17_4)
noncomputable def ref08_Check_l4_step (u4_0 : Sq SDoor) (u4_1 : Int) : DT (LR (Int) (Unit) (Int)) :=
 .ite (decide (u4_1 < ((u4_0.n : Nat) : Int))) (
 .ite (decide ((0 : Int) ≤ u4_1 ∧ u4_1 < ((u4_0.n : Nat) : Int))) (
 .ite (decide ((u4_0.f (Int.toNat u4_1)).Road < (0 : Int))) (
 .leaf (.r (4 : Int))) (
 .ite (decide ((((u4_0.f (Int.toNat u4_1)).Rests.n : Nat) : Int) < (2 : Int))) (
 .leaf (.r (2 : Int))) (
 .ite (decide ((((u4_0.f (Int.toNat u4_1)).Rests.n : Nat) : Int) > (6 : Int))) (
 .leaf (.r (2 : Int))) (
 .sum (ref08_Check_l12 u4_0 (u4_0.f (Int.toNat u4_1)).Road (u4_0.f (Int.toNat u4_1)).Other (u4_0.f (Int.toNat u4_1)).Rests u4_1 (0 : Int)) (fun _ =>
 .sum (ref08_Check_l17 u4_0 (u4_0.f (Int.toNat u4_1)).Road (u4_0.f (Int.toNat u4_1)).Other (u4_0.f (Int.toNat u4_1)).Rests u4_1 (1 : Int)) (fun _ =>
 .ite ((u4_0.f (Int.toNat u4_1)).Other != (-1 : Int)) (
 .ite (decide ((u4_0.f (Int.toNat u4_1)).Other < (0 : Int))) (
 .leaf (.r (15 : Int))) (
 .ite (decide ((u4_0.f (Int.toNat u4_1)).Other ≥ ((u4_0.n : Nat) : Int))) (
 .leaf (.r (15 : Int))) (
 .ite ((u4_0.f (Int.toNat u4_1)).Other == u4_1) (
 .leaf (.r (15 : Int))) (
 .ite (decide ((0 : Int) ≤ (u4_0.f (Int.toNat u4_1)).Other ∧ (u4_0.f (Int.toNat u4_1)).Other < ((u4_0.n : Nat) : Int))) (
 .ite ((u4_0.f (Int.toNat (u4_0.f (Int.toNat u4_1)).Other)).Other != u4_1) (
 .leaf (.r (15 : Int))) (
 .leaf (.next (wr (u4_1 + (1 : Int)))))) (
 .fail))))) (
 .leaf (.next (wr (u4_1 + (1 : Int)))))) (fun _ => .leaf (.r (15 : Int)))) (fun _ => .leaf (.r (1 : Int))))))) (
 .fail)) (
 .leaf (.l ()))
noncomputable def ref08_Check_l4_m : LpM := ⟨(Sq SDoor), Int, Unit, Int, fun p => ⟨[(0, sqA 3 SDoor.enc p.1), (3, .int .i64 p.2)], [], 384⟩, fun f v => ref08_Check_l4_step f v, false, (.exit 0), (fun _ _ => ⟨[(2, .undef)], [], 384⟩), .ret, (fun _ a => ⟨[(2, .int .i64 a)], [], 384⟩), c1, c1k⟩
noncomputable def ref08_Check_l4 (u4_0 : Sq SDoor) (u4_1 : Int) : Option ((Unit) ⊕ (Int)) := ref08_Check_l4_m.val (u4_0, u4_1)
theorem ref08_Check_l4_eq (u4_0 : Sq SDoor) (u4_1 : Int) : ref08_Check_l4 u4_0 u4_1 = fixO (fun v : Int => ref08_Check_l4_step u4_0 v) u4_1 := ref08_Check_l4_m.val_eq (fun x => (sqD SDoor.dec (aget x.tm 0), intA (aget x.tm 3))) (fun p => by kernel_rfl) (u4_0, u4_1)
noncomputable def ref08_Check_t (l : Sq SDoor) : DT (Int) :=
 .ite (decide (((l.n : Nat) : Int) > (16 : Int))) (
 .leaf (2 : Int)) (
 .sum (ref08_Check_l4 l (0 : Int)) (fun _ =>
 .leaf (0 : Int)) (fun y0 => .leaf y0))
noncomputable def ref08_Check_m : FnM := flM ((Sq SDoor)) (Int) (fun p => ([sqA 3 SDoor.enc p], [])) (fun p => ref08_Check_t p) (fun r => .int .i64 r) (fun _ => rfl)
noncomputable def ref08_Check_env : Env := envM [] [(12, [0, 3, 4, 5], [0, 2, 3, 4]), (17, [0, 3, 4, 6], [0, 2, 3, 4]), (4, [0, 3], [2])] [(12, ref08_Check_l12_m.c), (17, ref08_Check_l17_m.c), (4, ref08_Check_l4_m.c)] [] [(12, [896]), (17, [896]), (4, [])] 0
noncomputable def ref08_Check_e : Env := { ref08_Check_env with nt := 104 }
theorem ref08_Check_l12_tells : LoopTells ref08_Check_e (loopOf 12 Tryz.f67) ref08_Check_l12_m.c := ref08_Check_l12_m.tells 2048 (fun _ => by kernel_rfl) (fun _ _ _ _ => by kernel_rfl) (fun _ _ _ _ => by kernel_rfl) fun R f v N K => by kernel_rfl
theorem ref08_Check_l17_tells : LoopTells ref08_Check_e (loopOf 17 Tryz.f67) ref08_Check_l17_m.c := ref08_Check_l17_m.tells 2112 (fun _ => by kernel_rfl) (fun _ _ _ _ => by kernel_rfl) (fun _ _ _ _ => by kernel_rfl) fun R f v N K => by kernel_rfl
theorem ref08_Check_l4_tells : LoopTells ref08_Check_e (loopOf 4 Tryz.f67) ref08_Check_l4_m.c := ref08_Check_l4_m.tells 384 (fun _ => by kernel_rfl) (fun _ _ _ _ => by kernel_rfl) (fun _ _ _ _ => by kernel_rfl) fun R f v N K => by kernel_rfl
theorem ref08_Check_tells : Tells Tryz.prog 67 ref08_Check_m.c := ref08_Check_m.tells Tryz.func67 (show ∀ p, arun ref08_Check_env Tryz.f67 (ref08_Check_m.enc p).1 (ref08_Check_m.enc p).2 = _ from fun p => by kernel_rfl) (loopsL [loopOf 4 Tryz.f67, loopOf 12 Tryz.f67, loopOf 17 Tryz.f67] (by kernel_rfl) ⟨lpT (by kernel_rfl) ref08_Check_l4_tells, ⟨lpT (by kernel_rfl) ref08_Check_l12_tells, ⟨lpT (by kernel_rfl) ref08_Check_l17_tells, trivial⟩⟩⟩) .nil
noncomputable def ref08_Check (l : Sq SDoor) : Option (Int) := ref08_Check_m.val l
theorem ref08_Check_eq (l : Sq SDoor) : ref08_Check l = (ref08_Check_t l).get := ref08_Check_m.val_eq (fun x => sqD SDoor.dec (gd x.1 0)) (fun p => by kernel_rfl) l

/-! minecontrol/minecontrolref09.Check -/
noncomputable def ref09_Check_l7_step (_u7_0 : Sq SPlace) (u7_1 : Sq SRoad) (u7_2 : Sq SFan) (_u7_3 : Sq SDoor) (u7_4 : Int) : DT (LR (Int) (Unit) (Int)) :=
 .ite (decide (u7_4 < ((u7_2.n : Nat) : Int))) (
 .ite (decide ((0 : Int) ≤ u7_4 ∧ u7_4 < ((u7_2.n : Nat) : Int))) (
 .bind (ref07_Check (u7_2.f (Int.toNat u7_4))) fun z0 =>
 .ite (z0 != (0 : Int)) (
 .leaf (.r z0)) (
 .ite (decide ((0 : Int) ≤ u7_4 ∧ u7_4 < ((u7_2.n : Nat) : Int))) (
 .ite (decide ((u7_2.f (Int.toNat u7_4)).Road ≥ ((u7_1.n : Nat) : Int))) (
 .leaf (.r (4 : Int))) (
 .leaf (.next (wr (u7_4 + (1 : Int)))))) (
 .fail))) (
 .fail)) (
 .leaf (.l ()))
noncomputable def ref09_Check_l7_m : LpM := ⟨(Sq SPlace) × (Sq SRoad) × (Sq SFan) × (Sq SDoor), Int, Unit, Int, fun p => ⟨[(1, .ptr 0 0), (4, .int .i64 p.2)], [(0, .var [sqA 2 SPlace.enc p.1.1, sqA 10 SRoad.enc p.1.2.1, sqA 4 SFan.enc p.1.2.2.1, sqA 3 SDoor.enc p.1.2.2.2])], 1024⟩, fun f v => ref09_Check_l7_step f.1 f.2.1 f.2.2.1 f.2.2.2 v, false, (.exit 0), (fun x _ => ⟨[(1, .ptr 0 0), (2, .undef)], [(0, blkS x 0)], 1024⟩), .ret, (fun x a => ⟨[(1, .ptr 0 0), (2, .int .i64 a)], [(0, blkS x 0)], 1024⟩), c1, c1k⟩
noncomputable def ref09_Check_l7 (u7_0 : Sq SPlace) (u7_1 : Sq SRoad) (u7_2 : Sq SFan) (u7_3 : Sq SDoor) (u7_4 : Int) : Option ((Unit) ⊕ (Int)) := ref09_Check_l7_m.val ((u7_0, u7_1, u7_2, u7_3), u7_4)
theorem ref09_Check_l7_eq (u7_0 : Sq SPlace) (u7_1 : Sq SRoad) (u7_2 : Sq SFan) (u7_3 : Sq SDoor) (u7_4 : Int) : ref09_Check_l7 u7_0 u7_1 u7_2 u7_3 u7_4 = fixO (fun v : Int => ref09_Check_l7_step u7_0 u7_1 u7_2 u7_3 v) u7_4 := ref09_Check_l7_m.val_eq (fun x => ((sqD SPlace.dec (cellS x 0 0), sqD SRoad.dec (cellS x 0 1), sqD SFan.dec (cellS x 0 2), sqD SDoor.dec (cellS x 0 3)), intA (aget x.tm 4))) (fun p => by kernel_rfl) ((u7_0, u7_1, u7_2, u7_3), u7_4)
noncomputable def ref09_Check_l18_step (_u18_0 : Sq SPlace) (u18_1 : Sq SRoad) (_u18_2 : Sq SFan) (u18_3 : Sq SDoor) (u18_4 : Int) : DT (LR (Int) (Unit) (Unit)) :=
 .ite (decide (u18_4 < ((u18_3.n : Nat) : Int))) (
 .ite (decide ((0 : Int) ≤ u18_4 ∧ u18_4 < ((u18_3.n : Nat) : Int))) (
 .ite (decide ((u18_3.f (Int.toNat u18_4)).Road ≥ ((u18_1.n : Nat) : Int))) (
 .leaf (.r ())) (
 .leaf (.next (wr (u18_4 + (1 : Int)))))) (
 .fail)) (
 .leaf (.l ()))
noncomputable def ref09_Check_l18_m : LpM := ⟨(Sq SPlace) × (Sq SRoad) × (Sq SFan) × (Sq SDoor), Int, Unit, Unit, fun p => ⟨[(1, .ptr 0 0), (7, .int .i64 p.2)], [(0, .var [sqA 2 SPlace.enc p.1.1, sqA 10 SRoad.enc p.1.2.1, sqA 4 SFan.enc p.1.2.2.1, sqA 3 SDoor.enc p.1.2.2.2])], 1600⟩, fun f v => ref09_Check_l18_step f.1 f.2.1 f.2.2.1 f.2.2.2 v, false, (.exit 2), (fun x _ => ⟨[(2, .undef)], [(0, blkS x 0)], 1600⟩), .ret, (fun x _ => ⟨[(2, .int .i64 (4 : Int))], [(0, blkS x 0)], 1600⟩), c1, c1k⟩
noncomputable def ref09_Check_l18 (u18_0 : Sq SPlace) (u18_1 : Sq SRoad) (u18_2 : Sq SFan) (u18_3 : Sq SDoor) (u18_4 : Int) : Option ((Unit) ⊕ (Unit)) := ref09_Check_l18_m.val ((u18_0, u18_1, u18_2, u18_3), u18_4)
theorem ref09_Check_l18_eq (u18_0 : Sq SPlace) (u18_1 : Sq SRoad) (u18_2 : Sq SFan) (u18_3 : Sq SDoor) (u18_4 : Int) : ref09_Check_l18 u18_0 u18_1 u18_2 u18_3 u18_4 = fixO (fun v : Int => ref09_Check_l18_step u18_0 u18_1 u18_2 u18_3 v) u18_4 := ref09_Check_l18_m.val_eq (fun x => ((sqD SPlace.dec (cellS x 0 0), sqD SRoad.dec (cellS x 0 1), sqD SFan.dec (cellS x 0 2), sqD SDoor.dec (cellS x 0 3)), intA (aget x.tm 7))) (fun p => by kernel_rfl) ((u18_0, u18_1, u18_2, u18_3), u18_4)
noncomputable def ref09_Check_t (a : SAir) : DT (Int) :=
 .bind (ref01_Check a.Mine) fun z1 =>
 .ite (z1 != (0 : Int)) (
 .leaf z1) (
 .ite (decide (((a.Fans.n : Nat) : Int) > (8 : Int))) (
 .leaf (2 : Int)) (
 .sum (ref09_Check_l7 a.Mine.Places a.Mine.Roads a.Fans a.Doors (0 : Int)) (fun _ =>
 .bind (ref08_Check a.Doors) fun z2 =>
 .ite (z2 != (0 : Int)) (
 .leaf z2) (
 .sum (ref09_Check_l18 a.Mine.Places a.Mine.Roads a.Fans a.Doors (0 : Int)) (fun _ =>
 .leaf (0 : Int)) (fun _ => .leaf (4 : Int)))) (fun y0 => .leaf y0)))
noncomputable def ref09_Check_m : FnM := flM (SAir) (Int) (fun p => ([.agg (SAir.enc p)], [])) (fun p => ref09_Check_t p) (fun r => .int .i64 r) (fun _ => rfl)
noncomputable def ref09_Check_env : Env := envM [(65, ref01_Check_m.c), (66, ref07_Check_m.c), (67, ref08_Check_m.c)] [(7, [1, 4], [1, 2]), (18, [1, 7], [2])] [(7, ref09_Check_l7_m.c), (18, ref09_Check_l18_m.c)] [] [(7, [0]), (18, [0])] 0
noncomputable def ref09_Check_e : Env := { ref09_Check_env with nt := 69 }
theorem ref09_Check_l7_tells : LoopTells ref09_Check_e (loopOf 7 Tryz.f35) ref09_Check_l7_m.c := ref09_Check_l7_m.tells 1024 (fun _ => by kernel_rfl) (fun _ _ _ _ => by kernel_rfl) (fun _ _ _ _ => by kernel_rfl) fun R f v N K => by kernel_rfl
theorem ref09_Check_l18_tells : LoopTells ref09_Check_e (loopOf 18 Tryz.f35) ref09_Check_l18_m.c := ref09_Check_l18_m.tells 1600 (fun _ => by kernel_rfl) (fun _ _ _ _ => by kernel_rfl) (fun _ _ _ _ => by kernel_rfl) fun R f v N K => by kernel_rfl
theorem ref09_Check_tells : Tells Tryz.prog 35 ref09_Check_m.c := ref09_Check_m.tells Tryz.func35 (show ∀ p, arun ref09_Check_env Tryz.f35 (ref09_Check_m.enc p).1 (ref09_Check_m.enc p).2 = _ from fun p => by kernel_rfl) (loopsL [loopOf 7 Tryz.f35, loopOf 18 Tryz.f35] (by kernel_rfl) ⟨lpT (by kernel_rfl) ref09_Check_l7_tells, ⟨lpT (by kernel_rfl) ref09_Check_l18_tells, trivial⟩⟩) (.cons ref01_Check_tells (.cons ref07_Check_tells (.cons ref08_Check_tells .nil)))
noncomputable def ref09_Check (a : SAir) : Option (Int) := ref09_Check_m.val a
theorem ref09_Check_eq (a : SAir) : ref09_Check a = (ref09_Check_t a).get := ref09_Check_m.val_eq (fun x => SAir.dec (aggL (gd x.1 0))) (fun p => by kernel_rfl) a

/-! minecontrol/minecontrolref09.Right -/
noncomputable def ref09_Right_l4_step (_u4_0 : Sq SPlace) (_u4_1 : Sq SRoad) (_u4_2 : Sq SFan) (_u4_3 : Sq SDoor) (u4_4 _u4_5 : Sq Int) (u4_6 : Int) : DT (LR (Int) (Unit) (Unit)) :=
 .ite (decide (u4_6 < ((u4_4.n : Nat) : Int))) (
 .ite (decide ((0 : Int) ≤ u4_6 ∧ u4_6 < ((u4_4.n : Nat) : Int))) (
 .ite (decide ((u4_4.f (Int.toNat u4_6)) < (-1 : Int))) (
 .leaf (.r ())) (
 .ite (decide ((0 : Int) ≤ u4_6 ∧ u4_6 < ((u4_4.n : Nat) : Int))) (
 .ite (decide ((u4_4.f (Int.toNat u4_6)) > (2 : Int))) (
 .leaf (.r ())) (
 .leaf (.next (wr (u4_6 + (1 : Int)))))) (
 .fail))) (
 .fail)) (
 .leaf (.l ()))
noncomputable def ref09_Right_l4_m : LpM := ⟨(Sq SPlace) × (Sq SRoad) × (Sq SFan) × (Sq SDoor) × (Sq Int) × (Sq Int), Int, Unit, Unit, fun p => ⟨[(2, .ptr 0 0), (3, .ptr 64 0), (5, .int .i64 p.2)], [(0, .var [sqA 2 SPlace.enc p.1.1, sqA 10 SRoad.enc p.1.2.1, sqA 4 SFan.enc p.1.2.2.1, sqA 3 SDoor.enc p.1.2.2.2.1]), (64, .var [sqA 1 (eI .i64) p.1.2.2.2.2.1, sqA 1 (eI .i64) p.1.2.2.2.2.2])], 1664⟩, fun f v => ref09_Right_l4_step f.1 f.2.1 f.2.2.1 f.2.2.2.1 f.2.2.2.2.1 f.2.2.2.2.2 v, false, (.exit 0), (fun x _ => ⟨[(2, .ptr 0 0), (3, .ptr 64 0), (4, .undef)], [(0, blkS x 0), (64, blkS x 64)], 1664⟩), .ret, (fun x _ => ⟨[(2, .ptr 0 0), (3, .ptr 64 0), (4, .bool false)], [(0, blkS x 0), (64, blkS x 64)], 1664⟩), c1, c1k⟩
noncomputable def ref09_Right_l4 (u4_0 : Sq SPlace) (u4_1 : Sq SRoad) (u4_2 : Sq SFan) (u4_3 : Sq SDoor) (u4_4 u4_5 : Sq Int) (u4_6 : Int) : Option ((Unit) ⊕ (Unit)) := ref09_Right_l4_m.val ((u4_0, u4_1, u4_2, u4_3, u4_4, u4_5), u4_6)
theorem ref09_Right_l4_eq (u4_0 : Sq SPlace) (u4_1 : Sq SRoad) (u4_2 : Sq SFan) (u4_3 : Sq SDoor) (u4_4 u4_5 : Sq Int) (u4_6 : Int) : ref09_Right_l4 u4_0 u4_1 u4_2 u4_3 u4_4 u4_5 u4_6 = fixO (fun v : Int => ref09_Right_l4_step u4_0 u4_1 u4_2 u4_3 u4_4 u4_5 v) u4_6 := ref09_Right_l4_m.val_eq (fun x => ((sqD SPlace.dec (cellS x 0 0), sqD SRoad.dec (cellS x 0 1), sqD SFan.dec (cellS x 0 2), sqD SDoor.dec (cellS x 0 3), sqD dI (cellS x 64 0), sqD dI (cellS x 64 1)), intA (aget x.tm 5))) (fun p => by kernel_rfl) ((u4_0, u4_1, u4_2, u4_3, u4_4, u4_5), u4_6)
noncomputable def ref09_Right_l9_step (_u9_0 : Sq SPlace) (_u9_1 : Sq SRoad) (_u9_2 : Sq SFan) (u9_3 : Sq SDoor) (_u9_4 u9_5 : Sq Int) (u9_6 : Int) : DT (LR (Int) (Unit) (Unit)) :=
 .ite (decide (u9_6 < ((u9_5.n : Nat) : Int))) (
 .ite (decide ((0 : Int) ≤ u9_6 ∧ u9_6 < ((u9_5.n : Nat) : Int))) (
 .ite (decide ((u9_5.f (Int.toNat u9_6)) < (-1 : Int))) (
 .leaf (.r ())) (
 .ite (decide ((0 : Int) ≤ u9_6 ∧ u9_6 < ((u9_5.n : Nat) : Int))) (
 .ite (decide ((0 : Int) ≤ u9_6 ∧ u9_6 < ((u9_3.n : Nat) : Int))) (
 .ite (decide ((u9_5.f (Int.toNat u9_6)) ≥ (((u9_3.f (Int.toNat u9_6)).Rests.n : Nat) : Int))) (
 .leaf (.r ())) (
 .leaf (.next (wr (u9_6 + (1 : Int)))))) (
 .fail)) (
 .fail))) (
 .fail)) (
 .leaf (.l ()))
noncomputable def ref09_Right_l9_m : LpM := ⟨(Sq SPlace) × (Sq SRoad) × (Sq SFan) × (Sq SDoor) × (Sq Int) × (Sq Int), Int, Unit, Unit, fun p => ⟨[(2, .ptr 0 0), (3, .ptr 64 0), (6, .int .i64 p.2)], [(0, .var [sqA 2 SPlace.enc p.1.1, sqA 10 SRoad.enc p.1.2.1, sqA 4 SFan.enc p.1.2.2.1, sqA 3 SDoor.enc p.1.2.2.2.1]), (64, .var [sqA 1 (eI .i64) p.1.2.2.2.2.1, sqA 1 (eI .i64) p.1.2.2.2.2.2])], 1728⟩, fun f v => ref09_Right_l9_step f.1 f.2.1 f.2.2.1 f.2.2.2.1 f.2.2.2.2.1 f.2.2.2.2.2 v, false, (.exit 2), (fun x _ => ⟨[(4, .undef)], [(0, blkS x 0), (64, blkS x 64)], 1728⟩), .ret, (fun x _ => ⟨[(4, .bool false)], [(0, blkS x 0), (64, blkS x 64)], 1728⟩), c1, c1k⟩
noncomputable def ref09_Right_l9 (u9_0 : Sq SPlace) (u9_1 : Sq SRoad) (u9_2 : Sq SFan) (u9_3 : Sq SDoor) (u9_4 u9_5 : Sq Int) (u9_6 : Int) : Option ((Unit) ⊕ (Unit)) := ref09_Right_l9_m.val ((u9_0, u9_1, u9_2, u9_3, u9_4, u9_5), u9_6)
theorem ref09_Right_l9_eq (u9_0 : Sq SPlace) (u9_1 : Sq SRoad) (u9_2 : Sq SFan) (u9_3 : Sq SDoor) (u9_4 u9_5 : Sq Int) (u9_6 : Int) : ref09_Right_l9 u9_0 u9_1 u9_2 u9_3 u9_4 u9_5 u9_6 = fixO (fun v : Int => ref09_Right_l9_step u9_0 u9_1 u9_2 u9_3 u9_4 u9_5 v) u9_6 := ref09_Right_l9_m.val_eq (fun x => ((sqD SPlace.dec (cellS x 0 0), sqD SRoad.dec (cellS x 0 1), sqD SFan.dec (cellS x 0 2), sqD SDoor.dec (cellS x 0 3), sqD dI (cellS x 64 0), sqD dI (cellS x 64 1)), intA (aget x.tm 6))) (fun p => by kernel_rfl) ((u9_0, u9_1, u9_2, u9_3, u9_4, u9_5), u9_6)
noncomputable def ref09_Right_t (a : SAir) (s : SSetting) : DT (Bool) :=
 .bind (ref09_Check a) fun z0 =>
 .ite (z0 != (0 : Int)) (
 .leaf false) (
 .ite (((s.Fans.n : Nat) : Int) != ((a.Fans.n : Nat) : Int)) (
 .leaf false) (
 .ite (((s.Doors.n : Nat) : Int) != ((a.Doors.n : Nat) : Int)) (
 .leaf false) (
 .sum (ref09_Right_l4 a.Mine.Places a.Mine.Roads a.Fans a.Doors s.Fans s.Doors (0 : Int)) (fun _ =>
 .sum (ref09_Right_l9 a.Mine.Places a.Mine.Roads a.Fans a.Doors s.Fans s.Doors (0 : Int)) (fun _ =>
 .leaf true) (fun _ => .leaf false)) (fun _ => .leaf false))))
noncomputable def ref09_Right_m : FnM := flM (SAir × SSetting) (Bool) (fun p => ([.agg (SAir.enc p.1), .agg (SSetting.enc p.2)], [])) (fun p => ref09_Right_t p.1 p.2) (fun r => .bool r) (fun _ => rfl)
noncomputable def ref09_Right_env : Env := envM [(35, ref09_Check_m.c)] [(4, [2, 3, 5], [2, 3, 4]), (9, [2, 3, 6], [4])] [(4, ref09_Right_l4_m.c), (9, ref09_Right_l9_m.c)] [] [(4, [0, 64]), (9, [0, 64])] 0
noncomputable def ref09_Right_e : Env := { ref09_Right_env with nt := 77 }
theorem ref09_Right_l4_tells : LoopTells ref09_Right_e (loopOf 4 Tryz.f36) ref09_Right_l4_m.c := ref09_Right_l4_m.tells 1664 (fun _ => by kernel_rfl) (fun _ _ _ _ => by kernel_rfl) (fun _ _ _ _ => by kernel_rfl) fun R f v N K => by kernel_rfl
theorem ref09_Right_l9_tells : LoopTells ref09_Right_e (loopOf 9 Tryz.f36) ref09_Right_l9_m.c := ref09_Right_l9_m.tells 1728 (fun _ => by kernel_rfl) (fun _ _ _ _ => by kernel_rfl) (fun _ _ _ _ => by kernel_rfl) fun R f v N K => by kernel_rfl
theorem ref09_Right_tells : Tells Tryz.prog 36 ref09_Right_m.c := ref09_Right_m.tells Tryz.func36 (show ∀ p, arun ref09_Right_env Tryz.f36 (ref09_Right_m.enc p).1 (ref09_Right_m.enc p).2 = _ from fun p => by kernel_rfl) (loopsL [loopOf 4 Tryz.f36, loopOf 9 Tryz.f36] (by kernel_rfl) ⟨lpT (by kernel_rfl) ref09_Right_l4_tells, ⟨lpT (by kernel_rfl) ref09_Right_l9_tells, trivial⟩⟩) (.cons ref09_Check_tells .nil)
noncomputable def ref09_Right (a : SAir) (s : SSetting) : Option (Bool) := ref09_Right_m.val (a, s)
theorem ref09_Right_eq (a : SAir) (s : SSetting) : ref09_Right a s = (ref09_Right_t a s).get := ref09_Right_m.val_eq (fun x => (SAir.dec (aggL (gd x.1 0)), SSetting.dec (aggL (gd x.1 1)))) (fun p => by kernel_rfl) (a, s)

/-! minecontrol/plan.within -/
noncomputable def plan_within_t (n low high : Int) : DT (Bool) :=
 .ite (decide (low ≤ n)) (.leaf (decide (n ≤ high))) (.leaf false)
noncomputable def plan_within_m : FnM := flM (Int × Int × Int) (Bool) (fun p => ([.int .i64 p.1, .int .i64 p.2.1, .int .i64 p.2.2], [])) (fun p => plan_within_t p.1 p.2.1 p.2.2) (fun r => .bool r) (fun _ => rfl)
noncomputable def plan_within_env : Env := envM [] [] [] [] [] 0
theorem plan_within_tells : Tells Tryz.prog 83 plan_within_m.c := plan_within_m.tells Tryz.func83 (show ∀ p, arun plan_within_env Tryz.f83 (plan_within_m.enc p).1 (plan_within_m.enc p).2 = _ from fun p => by kernel_rfl) noLoops .nil
noncomputable def plan_within (n low high : Int) : Option (Bool) := plan_within_m.val (n, low, high)
theorem plan_within_eq (n low high : Int) : plan_within n low high = (plan_within_t n low high).get := plan_within_m.val_eq (fun x => (intA (gd x.1 0), intA (gd x.1 1), intA (gd x.1 2))) (fun p => by kernel_rfl) (n, low, high)

/-! minecontrol/plan.spans -/
noncomputable def plan_spans_t (s : SSpan) (low high : Int) : DT (Bool) :=
 .ite (decide (low ≤ s.Low)) (
 .ite (decide (s.Low ≤ s.High)) (.leaf (decide (s.High ≤ high))) (.leaf false)) (
 .leaf false)
noncomputable def plan_spans_m : FnM := flM (SSpan × Int × Int) (Bool) (fun p => ([.agg (SSpan.enc p.1), .int .i64 p.2.1, .int .i64 p.2.2], [])) (fun p => plan_spans_t p.1 p.2.1 p.2.2) (fun r => .bool r) (fun _ => rfl)
noncomputable def plan_spans_env : Env := envM [] [] [] [] [] 0
theorem plan_spans_tells : Tells Tryz.prog 105 plan_spans_m.c := plan_spans_m.tells Tryz.func105 (show ∀ p, arun plan_spans_env Tryz.f105 (plan_spans_m.enc p).1 (plan_spans_m.enc p).2 = _ from fun p => by kernel_rfl) noLoops .nil
noncomputable def plan_spans (s : SSpan) (low high : Int) : Option (Bool) := plan_spans_m.val (s, low, high)
theorem plan_spans_eq (s : SSpan) (low high : Int) : plan_spans s low high = (plan_spans_t s low high).get := plan_spans_m.val_eq (fun x => (SSpan.dec (aggL (gd x.1 0)), intA (gd x.1 1), intA (gd x.1 2))) (fun p => by kernel_rfl) (s, low, high)

/-! minecontrol/plan.checkRoad -/
noncomputable def plan_checkRoad_t (r : SRoad) (places : Int) : DT (Int) :=
 .bind (plan_within r.From (0 : Int) (wr (places - (1 : Int)))) fun z0 =>
 .ite (!z0) (
 .leaf (4 : Int)) (
 .bind (plan_within r.To (0 : Int) (wr (places - (1 : Int)))) fun z1 =>
 .ite (!z1) (
 .leaf (4 : Int)) (
 .ite (r.From == r.To) (
 .leaf (4 : Int)) (
 .bind (plan_within r.Length (1 : Int) (100000 : Int)) fun z2 =>
 .ite (!z2) (
 .leaf (1 : Int)) (
 .bind (plan_within r.Area (1 : Int) (1000 : Int)) fun z3 =>
 .ite (!z3) (
 .leaf (1 : Int)) (
 .bind (plan_spans r.Rest (1 : Int) (262144 : Int)) fun z4 =>
 .ite (!z4) (
 .leaf (1 : Int)) (
 .bind (plan_spans r.Lift (-2199023255552 : Int) (2199023255552 : Int)) fun z5 =>
 .ite (!z5) (.leaf (1 : Int)) (.leaf (0 : Int))))))))
noncomputable def plan_checkRoad_m : FnM := flM (SRoad × Int) (Int) (fun p => ([.agg (SRoad.enc p.1), .int .i64 p.2], [])) (fun p => plan_checkRoad_t p.1 p.2) (fun r => .int .i64 r) (fun _ => rfl)
noncomputable def plan_checkRoad_env : Env := envM [(83, plan_within_m.c), (105, plan_spans_m.c)] [] [] [] [] 0
theorem plan_checkRoad_tells : Tells Tryz.prog 84 plan_checkRoad_m.c := plan_checkRoad_m.tells Tryz.func84 (show ∀ p, arun plan_checkRoad_env Tryz.f84 (plan_checkRoad_m.enc p).1 (plan_checkRoad_m.enc p).2 = _ from fun p => by kernel_rfl) noLoops (.cons plan_within_tells (.cons plan_spans_tells .nil))
noncomputable def plan_checkRoad (r : SRoad) (places : Int) : Option (Int) := plan_checkRoad_m.val (r, places)
theorem plan_checkRoad_eq (r : SRoad) (places : Int) : plan_checkRoad r places = (plan_checkRoad_t r places).get := plan_checkRoad_m.val_eq (fun x => (SRoad.dec (aggL (gd x.1 0)), intA (gd x.1 1))) (fun p => by kernel_rfl) (r, places)

/-! minecontrol/plan.Check -/
noncomputable def plan_Check_l4_step (u4_0 : Sq SPlace) (_u4_2 : Sq SRoad) (u4_3 : Int) : DT (LR (Int) (Unit) (Unit)) :=
 .ite (decide (u4_3 < ((u4_0.n : Nat) : Int))) (
 .ite (decide ((0 : Int) ≤ u4_3 ∧ u4_3 < ((u4_0.n : Nat) : Int))) (
 .bind (plan_within (u4_0.f (Int.toNat u4_3)).Height (-10000 : Int) (10000 : Int)) fun z0 =>
 .ite (!z0) (
 .leaf (.r ())) (
 .leaf (.next (wr (u4_3 + (1 : Int)))))) (
 .fail)) (
 .leaf (.l ()))
noncomputable def plan_Check_l4_m : LpM := ⟨(Sq SPlace) × (Sq SRoad), Int, Unit, Unit, fun p => ⟨[(1, .ptr 0 0), (19, sqA 2 SPlace.enc p.1.1), (20, .int .i64 ((p.1.1.n : Nat) : Int)), (21, .int .i64 p.2)], [(0, .var [sqA 2 SPlace.enc p.1.1, sqA 10 SRoad.enc p.1.2])], 1088⟩, fun f v => plan_Check_l4_step f.1 f.2 v, false, (.exit 0), (fun x _ => ⟨[(1, .ptr 0 0), (2, .undef)], [(0, blkS x 0)], 1088⟩), .ret, (fun x _ => ⟨[(1, .ptr 0 0), (2, .int .i64 (1 : Int))], [(0, blkS x 0)], 1088⟩), c1, c1k⟩
noncomputable def plan_Check_l4 (u4_0 : Sq SPlace) (u4_2 : Sq SRoad) (u4_3 : Int) : Option ((Unit) ⊕ (Unit)) := plan_Check_l4_m.val ((u4_0, u4_2), u4_3)
theorem plan_Check_l4_eq (u4_0 : Sq SPlace) (u4_2 : Sq SRoad) (u4_3 : Int) : plan_Check_l4 u4_0 u4_2 u4_3 = fixO (fun v : Int => plan_Check_l4_step u4_0 u4_2 v) u4_3 := plan_Check_l4_m.val_eq (fun x => ((sqD SPlace.dec (aget x.tm 19), sqD SRoad.dec (cellS x 0 1)), intA (aget x.tm 21))) (fun p => by kernel_rfl) ((u4_0, u4_2), u4_3)
noncomputable def plan_Check_l10_step (u10_0 : Sq SRoad) (u10_2 : Sq SPlace) (u10_3 : Int) : DT (LR (Int) (Unit) (Int)) :=
 .ite (decide (u10_3 < ((u10_0.n : Nat) : Int))) (
 .ite (decide ((0 : Int) ≤ u10_3 ∧ u10_3 < ((u10_0.n : Nat) : Int))) (
 .bind (plan_checkRoad (u10_0.f (Int.toNat u10_3)) ((u10_2.n : Nat) : Int)) fun z1 =>
 .ite (z1 != (0 : Int)) (
 .leaf (.r z1)) (
 .leaf (.next (wr (u10_3 + (1 : Int)))))) (
 .fail)) (
 .leaf (.l ()))
noncomputable def plan_Check_l10_m : LpM := ⟨(Sq SRoad) × (Sq SPlace), Int, Unit, Int, fun p => ⟨[(1, .ptr 0 0), (31, sqA 10 SRoad.enc p.1.1), (32, .int .i64 ((p.1.1.n : Nat) : Int)), (33, .int .i64 p.2)], [(0, .var [sqA 2 SPlace.enc p.1.2, sqA 10 SRoad.enc p.1.1])], 1344⟩, fun f v => plan_Check_l10_step f.1 f.2 v, false, (.exit 2), (fun x _ => ⟨[(2, .undef)], [(0, blkS x 0)], 1344⟩), .ret, (fun x a => ⟨[(2, .int .i64 a)], [(0, blkS x 0)], 1344⟩), c1, c1k⟩
noncomputable def plan_Check_l10 (u10_0 : Sq SRoad) (u10_2 : Sq SPlace) (u10_3 : Int) : Option ((Unit) ⊕ (Int)) := plan_Check_l10_m.val ((u10_0, u10_2), u10_3)
theorem plan_Check_l10_eq (u10_0 : Sq SRoad) (u10_2 : Sq SPlace) (u10_3 : Int) : plan_Check_l10 u10_0 u10_2 u10_3 = fixO (fun v : Int => plan_Check_l10_step u10_0 u10_2 v) u10_3 := plan_Check_l10_m.val_eq (fun x => ((sqD SRoad.dec (aget x.tm 31), sqD SPlace.dec (cellS x 0 0)), intA (aget x.tm 33))) (fun p => by kernel_rfl) ((u10_0, u10_2), u10_3)
noncomputable def plan_Check_t (m : SMine) : DT (Int) :=
 .ite (decide (((m.Places.n : Nat) : Int) > (64 : Int))) (
 .leaf (2 : Int)) (
 .ite (decide (((m.Roads.n : Nat) : Int) > (128 : Int))) (
 .leaf (2 : Int)) (
 .sum (plan_Check_l4 m.Places m.Roads (0 : Int)) (fun _ =>
 .sum (plan_Check_l10 m.Roads m.Places (0 : Int)) (fun _ =>
 .leaf (0 : Int)) (fun y0 => .leaf y0)) (fun _ => .leaf (1 : Int))))
noncomputable def plan_Check_m : FnM := flM (SMine) (Int) (fun p => ([.agg (SMine.enc p)], [])) (fun p => plan_Check_t p) (fun r => .int .i64 r) (fun _ => rfl)
noncomputable def plan_Check_env : Env := envM [(83, plan_within_m.c), (84, plan_checkRoad_m.c)] [(4, [1, 19, 20, 21], [1, 2]), (10, [1, 31, 32, 33], [2])] [(4, plan_Check_l4_m.c), (10, plan_Check_l10_m.c)] [] [(4, [0]), (10, [0])] 0
noncomputable def plan_Check_e : Env := { plan_Check_env with nt := 46 }
theorem plan_Check_l4_tells : LoopTells plan_Check_e (loopOf 4 Tryz.f61) plan_Check_l4_m.c := plan_Check_l4_m.tells 1088 (fun _ => by kernel_rfl) (fun _ _ _ _ => by kernel_rfl) (fun _ _ _ _ => by kernel_rfl) fun R f v N K => by kernel_rfl
theorem plan_Check_l10_tells : LoopTells plan_Check_e (loopOf 10 Tryz.f61) plan_Check_l10_m.c := plan_Check_l10_m.tells 1344 (fun _ => by kernel_rfl) (fun _ _ _ _ => by kernel_rfl) (fun _ _ _ _ => by kernel_rfl) fun R f v N K => by kernel_rfl
theorem plan_Check_tells : Tells Tryz.prog 61 plan_Check_m.c := plan_Check_m.tells Tryz.func61 (show ∀ p, arun plan_Check_env Tryz.f61 (plan_Check_m.enc p).1 (plan_Check_m.enc p).2 = _ from fun p => by kernel_rfl) (loopsL [loopOf 4 Tryz.f61, loopOf 10 Tryz.f61] (by kernel_rfl) ⟨lpT (by kernel_rfl) plan_Check_l4_tells, ⟨lpT (by kernel_rfl) plan_Check_l10_tells, trivial⟩⟩) (.cons plan_within_tells (.cons plan_checkRoad_tells .nil))
noncomputable def plan_Check (m : SMine) : Option (Int) := plan_Check_m.val m
theorem plan_Check_eq (m : SMine) : plan_Check m = (plan_Check_t m).get := plan_Check_m.val_eq (fun x => SMine.dec (aggL (gd x.1 0))) (fun p => by kernel_rfl) m

/-! minecontrol/fan.within -/
noncomputable def fan_within_t (n low high : Int) : DT (Bool) :=
 .ite (decide (low ≤ n)) (.leaf (decide (n ≤ high))) (.leaf false)
noncomputable def fan_within_m : FnM := flM (Int × Int × Int) (Bool) (fun p => ([.int .i64 p.1, .int .i64 p.2.1, .int .i64 p.2.2], [])) (fun p => fan_within_t p.1 p.2.1 p.2.2) (fun r => .bool r) (fun _ => rfl)
noncomputable def fan_within_env : Env := envM [] [] [] [] [] 0
theorem fan_within_tells : Tells Tryz.prog 106 fan_within_m.c := fan_within_m.tells Tryz.func106 (show ∀ p, arun fan_within_env Tryz.f106 (fan_within_m.enc p).1 (fan_within_m.enc p).2 = _ from fun p => by kernel_rfl) noLoops .nil
noncomputable def fan_within (n low high : Int) : Option (Bool) := fan_within_m.val (n, low, high)
theorem fan_within_eq (n low high : Int) : fan_within n low high = (fan_within_t n low high).get := fan_within_m.val_eq (fun x => (intA (gd x.1 0), intA (gd x.1 1), intA (gd x.1 2))) (fun p => by kernel_rfl) (n, low, high)

/-! minecontrol/fan.falls -/
noncomputable def fan_falls_t (from_ to_ : SPoint) : DT (Bool) :=
 .ite (decide (from_.Flow < to_.Flow)) (.leaf (decide (from_.Pressure ≥ to_.Pressure))) (.leaf false)
noncomputable def fan_falls_m : FnM := flM (SPoint × SPoint) (Bool) (fun p => ([.agg (SPoint.enc p.1), .agg (SPoint.enc p.2)], [])) (fun p => fan_falls_t p.1 p.2) (fun r => .bool r) (fun _ => rfl)
noncomputable def fan_falls_env : Env := envM [] [] [] [] [] 0
theorem fan_falls_tells : Tells Tryz.prog 107 fan_falls_m.c := fan_falls_m.tells Tryz.func107 (show ∀ p, arun fan_falls_env Tryz.f107 (fan_falls_m.enc p).1 (fan_falls_m.enc p).2 = _ from fun p => by kernel_rfl) noLoops .nil
noncomputable def fan_falls (from_ to_ : SPoint) : Option (Bool) := fan_falls_m.val (from_, to_)
theorem fan_falls_eq (from_ to_ : SPoint) : fan_falls from_ to_ = (fan_falls_t from_ to_).get := fan_falls_m.val_eq (fun x => (SPoint.dec (aggL (gd x.1 0)), SPoint.dec (aggL (gd x.1 1)))) (fun p => by kernel_rfl) (from_, to_)

/-! minecontrol/fan.Check -/
noncomputable def fan_Check_l6_step (u6_0 : Sq SPoint) (_u6_2 : Int) (_u6_3 _u6_4 : Bool) (u6_5 : Int) : DT (LR (Int) (Unit) (Int)) :=
 .ite (decide (u6_5 < ((u6_0.n : Nat) : Int))) (
 .ite (decide ((0 : Int) ≤ u6_5 ∧ u6_5 < ((u6_0.n : Nat) : Int))) (
 .bind (fan_within (u6_0.f (Int.toNat u6_5)).Flow (-1048576 : Int) (1048576 : Int)) fun z0 =>
 .ite (!z0) (
 .leaf (.r (1 : Int))) (
 .bind (fan_within (u6_0.f (Int.toNat u6_5)).Pressure (0 : Int) (2199023255552 : Int)) fun z1 =>
 .ite (!z1) (
 .leaf (.r (1 : Int))) (
 .ite (decide (u6_5 > (0 : Int))) (
 .ite (decide ((0 : Int) ≤ (wr (u6_5 - (1 : Int))) ∧ (wr (u6_5 - (1 : Int))) < ((u6_0.n : Nat) : Int))) (
 .bind (fan_falls (u6_0.f (Int.toNat (wr (u6_5 - (1 : Int))))) (u6_0.f (Int.toNat u6_5))) fun z2 =>
 .ite (!z2) (
 .leaf (.r (14 : Int))) (
 .leaf (.next (wr (u6_5 + (1 : Int)))))) (
 .fail)) (
 .leaf (.next (wr (u6_5 + (1 : Int)))))))) (
 .fail)) (
 .leaf (.l ()))
noncomputable def fan_Check_l6_m : LpM := ⟨(Sq SPoint) × Int × Bool × Bool, Int, Unit, Int, fun p => ⟨[(1, .ptr 0 0), (21, sqA 2 SPoint.enc p.1.1), (22, .int .i64 ((p.1.1.n : Nat) : Int)), (23, .int .i64 p.2)], [(0, .var [.int .i64 p.1.2.1, .bool p.1.2.2.1, .bool p.1.2.2.2, sqA 2 SPoint.enc p.1.1])], 1472⟩, fun f v => fan_Check_l6_step f.1 f.2.1 f.2.2.1 f.2.2.2 v, false, (.exit 1), (fun x _ => ⟨[(2, .undef)], [(0, blkS x 0)], 1472⟩), .ret, (fun x a => ⟨[(2, .int .i64 a)], [(0, blkS x 0)], 1472⟩), c1, c1k⟩
noncomputable def fan_Check_l6 (u6_0 : Sq SPoint) (u6_2 : Int) (u6_3 u6_4 : Bool) (u6_5 : Int) : Option ((Unit) ⊕ (Int)) := fan_Check_l6_m.val ((u6_0, u6_2, u6_3, u6_4), u6_5)
theorem fan_Check_l6_eq (u6_0 : Sq SPoint) (u6_2 : Int) (u6_3 u6_4 : Bool) (u6_5 : Int) : fan_Check_l6 u6_0 u6_2 u6_3 u6_4 u6_5 = fixO (fun v : Int => fan_Check_l6_step u6_0 u6_2 u6_3 u6_4 v) u6_5 := fan_Check_l6_m.val_eq (fun x => ((sqD SPoint.dec (aget x.tm 21), intA (cellS x 0 0), boolA (cellS x 0 1), boolA (cellS x 0 2)), intA (aget x.tm 23))) (fun p => by kernel_rfl) ((u6_0, u6_2, u6_3, u6_4), u6_5)
noncomputable def fan_Check_t (f : SFan) : DT (Int) :=
 .ite (decide (f.Road < (0 : Int))) (
 .leaf (4 : Int)) (
 .ite (((f.Curve.n : Nat) : Int) == (0 : Int)) (
 .leaf (2 : Int)) (
 .ite (decide (((f.Curve.n : Nat) : Int) > (8 : Int))) (
 .leaf (2 : Int)) (
 .sum (fan_Check_l6 f.Curve f.Road f.Back f.Auxiliary (0 : Int)) (fun _ =>
 .leaf (0 : Int)) (fun y0 => .leaf y0))))
noncomputable def fan_Check_m : FnM := flM (SFan) (Int) (fun p => ([.agg (SFan.enc p)], [])) (fun p => fan_Check_t p) (fun r => .int .i64 r) (fun _ => rfl)
noncomputable def fan_Check_env : Env := envM [(106, fan_within_m.c), (107, fan_falls_m.c)] [(6, [1, 21, 22, 23], [2])] [(6, fan_Check_l6_m.c)] [] [(6, [0])] 0
noncomputable def fan_Check_e : Env := { fan_Check_env with nt := 52 }
theorem fan_Check_l6_tells : LoopTells fan_Check_e (loopOf 6 Tryz.f85) fan_Check_l6_m.c := fan_Check_l6_m.tells 1472 (fun _ => by kernel_rfl) (fun _ _ _ _ => by kernel_rfl) (fun _ _ _ _ => by kernel_rfl) fun R f v N K => by kernel_rfl
theorem fan_Check_tells : Tells Tryz.prog 85 fan_Check_m.c := fan_Check_m.tells Tryz.func85 (show ∀ p, arun fan_Check_env Tryz.f85 (fan_Check_m.enc p).1 (fan_Check_m.enc p).2 = _ from fun p => by kernel_rfl) (loopsL [loopOf 6 Tryz.f85] (by kernel_rfl) ⟨lpT (by kernel_rfl) fan_Check_l6_tells, trivial⟩) (.cons fan_within_tells (.cons fan_falls_tells .nil))
noncomputable def fan_Check (f : SFan) : Option (Int) := fan_Check_m.val f
theorem fan_Check_eq (f : SFan) : fan_Check f = (fan_Check_t f).get := fan_Check_m.val_eq (fun x => SFan.dec (aggL (gd x.1 0))) (fun p => by kernel_rfl) f

/-! minecontrol/branch.within -/
noncomputable def branch_within_t (n low high : Int) : DT (Bool) :=
 .ite (decide (low ≤ n)) (.leaf (decide (n ≤ high))) (.leaf false)
noncomputable def branch_within_m : FnM := flM (Int × Int × Int) (Bool) (fun p => ([.int .i64 p.1, .int .i64 p.2.1, .int .i64 p.2.2], [])) (fun p => branch_within_t p.1 p.2.1 p.2.2) (fun r => .bool r) (fun _ => rfl)
noncomputable def branch_within_env : Env := envM [] [] [] [] [] 0
theorem branch_within_tells : Tells Tryz.prog 74 branch_within_m.c := branch_within_m.tells Tryz.func74 (show ∀ p, arun branch_within_env Tryz.f74 (branch_within_m.enc p).1 (branch_within_m.enc p).2 = _ from fun p => by kernel_rfl) noLoops .nil
noncomputable def branch_within (n low high : Int) : Option (Bool) := branch_within_m.val (n, low, high)
theorem branch_within_eq (n low high : Int) : branch_within n low high = (branch_within_t n low high).get := branch_within_m.val_eq (fun x => (intA (gd x.1 0), intA (gd x.1 1), intA (gd x.1 2))) (fun p => by kernel_rfl) (n, low, high)

/-! minecontrol/branch.hasRoad -/
noncomputable def branch_hasRoad_t (a : SAir) (road : Int) : DT (Bool) :=
 .bind (branch_within road (0 : Int) (wr (((a.Mine.Roads.n : Nat) : Int) - (1 : Int)))) fun z0 =>
 .leaf z0
noncomputable def branch_hasRoad_m : FnM := flM (SAir × Int) (Bool) (fun p => ([.agg (SAir.enc p.1), .int .i64 p.2], [])) (fun p => branch_hasRoad_t p.1 p.2) (fun r => .bool r) (fun _ => rfl)
noncomputable def branch_hasRoad_env : Env := envM [(74, branch_within_m.c)] [] [] [] [] 0
theorem branch_hasRoad_tells : Tells Tryz.prog 86 branch_hasRoad_m.c := branch_hasRoad_m.tells Tryz.func86 (show ∀ p, arun branch_hasRoad_env Tryz.f86 (branch_hasRoad_m.enc p).1 (branch_hasRoad_m.enc p).2 = _ from fun p => by kernel_rfl) noLoops (.cons branch_within_tells .nil)
noncomputable def branch_hasRoad (a : SAir) (road : Int) : Option (Bool) := branch_hasRoad_m.val (a, road)
theorem branch_hasRoad_eq (a : SAir) (road : Int) : branch_hasRoad a road = (branch_hasRoad_t a road).get := branch_hasRoad_m.val_eq (fun x => (SAir.dec (aggL (gd x.1 0)), intA (gd x.1 1))) (fun p => by kernel_rfl) (a, road)

/-! minecontrol/branch.checkFans -/
noncomputable def branch_checkFans_l4_step (u4_0 : Sq SFan) (u4_2 : Sq SPlace) (u4_3 : Sq SRoad) (u4_4 : Sq SDoor) (u4_5 : Int) : DT (LR (Int) (Unit) (Int)) :=
 .ite (decide (u4_5 < ((u4_0.n : Nat) : Int))) (
 .ite (decide ((0 : Int) ≤ u4_5 ∧ u4_5 < ((u4_0.n : Nat) : Int))) (
 .bind (fan_Check (u4_0.f (Int.toNat u4_5))) fun z0 =>
 .ite (z0 != (0 : Int)) (
 .leaf (.r z0)) (
 .bind (branch_hasRoad (SAir.mk (SMine.mk u4_2 u4_3) u4_0 u4_4) (u4_0.f (Int.toNat u4_5)).Road) fun z1 =>
 .ite (!z1) (
 .leaf (.r (4 : Int))) (
 .leaf (.next (wr (u4_5 + (1 : Int))))))) (
 .fail)) (
 .leaf (.l ()))
noncomputable def branch_checkFans_l4_m : LpM := ⟨(Sq SFan) × (Sq SPlace) × (Sq SRoad) × (Sq SDoor), Int, Unit, Int, fun p => ⟨[(1, .ptr 0 0), (11, sqA 4 SFan.enc p.1.1), (12, .int .i64 ((p.1.1.n : Nat) : Int)), (13, .int .i64 p.2)], [(0, .var [sqA 2 SPlace.enc p.1.2.1, sqA 10 SRoad.enc p.1.2.2.1, sqA 4 SFan.enc p.1.1, sqA 3 SDoor.enc p.1.2.2.2])], 704⟩, fun f v => branch_checkFans_l4_step f.1 f.2.1 f.2.2.1 f.2.2.2 v, false, (.exit 0), (fun x _ => ⟨[(2, .undef)], [(0, blkS x 0)], 704⟩), .ret, (fun x a => ⟨[(2, .int .i64 a)], [(0, blkS x 0)], 704⟩), c1, c1k⟩
noncomputable def branch_checkFans_l4 (u4_0 : Sq SFan) (u4_2 : Sq SPlace) (u4_3 : Sq SRoad) (u4_4 : Sq SDoor) (u4_5 : Int) : Option ((Unit) ⊕ (Int)) := branch_checkFans_l4_m.val ((u4_0, u4_2, u4_3, u4_4), u4_5)
theorem branch_checkFans_l4_eq (u4_0 : Sq SFan) (u4_2 : Sq SPlace) (u4_3 : Sq SRoad) (u4_4 : Sq SDoor) (u4_5 : Int) : branch_checkFans_l4 u4_0 u4_2 u4_3 u4_4 u4_5 = fixO (fun v : Int => branch_checkFans_l4_step u4_0 u4_2 u4_3 u4_4 v) u4_5 := branch_checkFans_l4_m.val_eq (fun x => ((sqD SFan.dec (aget x.tm 11), sqD SPlace.dec (cellS x 0 0), sqD SRoad.dec (cellS x 0 1), sqD SDoor.dec (cellS x 0 3)), intA (aget x.tm 13))) (fun p => by kernel_rfl) ((u4_0, u4_2, u4_3, u4_4), u4_5)
noncomputable def branch_checkFans_t (a : SAir) : DT (Int) :=
 .ite (decide (((a.Fans.n : Nat) : Int) > (8 : Int))) (
 .leaf (2 : Int)) (
 .sum (branch_checkFans_l4 a.Fans a.Mine.Places a.Mine.Roads a.Doors (0 : Int)) (fun _ =>
 .leaf (0 : Int)) (fun y0 => .leaf y0))
noncomputable def branch_checkFans_m : FnM := flM (SAir) (Int) (fun p => ([.agg (SAir.enc p)], [])) (fun p => branch_checkFans_t p) (fun r => .int .i64 r) (fun _ => rfl)
noncomputable def branch_checkFans_env : Env := envM [(85, fan_Check_m.c), (86, branch_hasRoad_m.c)] [(4, [1, 11, 12, 13], [2])] [(4, branch_checkFans_l4_m.c)] [] [(4, [0])] 0
noncomputable def branch_checkFans_e : Env := { branch_checkFans_env with nt := 28 }
theorem branch_checkFans_l4_tells : LoopTells branch_checkFans_e (loopOf 4 Tryz.f62) branch_checkFans_l4_m.c := branch_checkFans_l4_m.tells 704 (fun _ => by kernel_rfl) (fun _ _ _ _ => by kernel_rfl) (fun _ _ _ _ => by kernel_rfl) fun R f v N K => by kernel_rfl
theorem branch_checkFans_tells : Tells Tryz.prog 62 branch_checkFans_m.c := branch_checkFans_m.tells Tryz.func62 (show ∀ p, arun branch_checkFans_env Tryz.f62 (branch_checkFans_m.enc p).1 (branch_checkFans_m.enc p).2 = _ from fun p => by kernel_rfl) (loopsL [loopOf 4 Tryz.f62] (by kernel_rfl) ⟨lpT (by kernel_rfl) branch_checkFans_l4_tells, trivial⟩) (.cons fan_Check_tells (.cons branch_hasRoad_tells .nil))
noncomputable def branch_checkFans (a : SAir) : Option (Int) := branch_checkFans_m.val a
theorem branch_checkFans_eq (a : SAir) : branch_checkFans a = (branch_checkFans_t a).get := branch_checkFans_m.val_eq (fun x => SAir.dec (aggL (gd x.1 0))) (fun p => by kernel_rfl) a

/-! minecontrol/door.outOfRange -/
noncomputable def door_outOfRange_t (rest : Int) : DT (Bool) :=
 .ite (decide (rest < (0 : Int))) (.leaf true) (.leaf (decide (rest > (262144 : Int))))
noncomputable def door_outOfRange_m : FnM := flM (Int) (Bool) (fun p => ([.int .i64 p], [])) (fun p => door_outOfRange_t p) (fun r => .bool r) (fun _ => rfl)
noncomputable def door_outOfRange_env : Env := envM [] [] [] [] [] 0
theorem door_outOfRange_tells : Tells Tryz.prog 132 door_outOfRange_m.c := door_outOfRange_m.tells Tryz.func132 (show ∀ p, arun door_outOfRange_env Tryz.f132 (door_outOfRange_m.enc p).1 (door_outOfRange_m.enc p).2 = _ from fun p => by kernel_rfl) noLoops .nil
noncomputable def door_outOfRange (rest : Int) : Option (Bool) := door_outOfRange_m.val rest
theorem door_outOfRange_eq (rest : Int) : door_outOfRange rest = (door_outOfRange_t rest).get := door_outOfRange_m.val_eq (fun x => intA (gd x.1 0)) (fun p => by kernel_rfl) rest

/-! slices.IndexFunc[[]int,int] -/
noncomputable def slices_IndexFunc_l2_step (u2_0 : Sq Int) (u2_2 : Int) : DT (LR (Int) (Unit) (Int)) :=
 .ite (decide (u2_2 < ((u2_0.n : Nat) : Int))) (
 .ite (decide ((0 : Int) ≤ u2_2 ∧ u2_2 < ((u2_0.n : Nat) : Int))) (
 .bind (door_outOfRange (u2_0.f (Int.toNat u2_2))) fun z0 =>
 .ite z0 (
 .leaf (.r u2_2)) (
 .leaf (.next (wr (u2_2 + (1 : Int)))))) (
 .fail)) (
 .leaf (.l ()))
noncomputable def slices_IndexFunc_l2_m : LpM := ⟨(Sq Int), Int, Unit, Int, fun p => ⟨[(0, sqA 1 (eI .i64) p.1), (1, .fn 132 []), (7, .int .i64 ((p.1.n : Nat) : Int)), (8, .int .i64 p.2)], [], 256⟩, fun f v => slices_IndexFunc_l2_step f v, false, (.exit 0), (fun _ _ => ⟨[(4, .undef)], [], 256⟩), .ret, (fun _ a => ⟨[(4, .int .i64 a)], [], 256⟩), c1, c1k⟩
noncomputable def slices_IndexFunc_l2 (u2_0 : Sq Int) (u2_2 : Int) : Option ((Unit) ⊕ (Int)) := slices_IndexFunc_l2_m.val (u2_0, u2_2)
theorem slices_IndexFunc_l2_eq (u2_0 : Sq Int) (u2_2 : Int) : slices_IndexFunc_l2 u2_0 u2_2 = fixO (fun v : Int => slices_IndexFunc_l2_step u2_0 v) u2_2 := slices_IndexFunc_l2_m.val_eq (fun x => (sqD dI (aget x.tm 0), intA (aget x.tm 8))) (fun p => by kernel_rfl) (u2_0, u2_2)
noncomputable def slices_IndexFunc_t (s : Sq Int) : DT (Int) :=
 .sum (slices_IndexFunc_l2 s (0 : Int)) (fun _ =>
 .leaf (-1 : Int)) (fun y0 => .leaf y0)
noncomputable def slices_IndexFunc_m : FnM := flM ((Sq Int)) (Int) (fun p => ([sqA 1 (eI .i64) p, .fn 132 []], [])) (fun p => slices_IndexFunc_t p) (fun r => .int .i64 r) (fun _ => rfl)
noncomputable def slices_IndexFunc_env : Env := envM [(132, door_outOfRange_m.c)] [(2, [0, 1, 7, 8], [4])] [(2, slices_IndexFunc_l2_m.c)] [] [(2, [])] 0
noncomputable def slices_IndexFunc_e : Env := { slices_IndexFunc_env with nt := 19 }
theorem slices_IndexFunc_l2_tells : LoopTells slices_IndexFunc_e (loopOf 2 Tryz.f64) slices_IndexFunc_l2_m.c := slices_IndexFunc_l2_m.tells 256 (fun _ => by kernel_rfl) (fun _ _ _ _ => by kernel_rfl) (fun _ _ _ _ => by kernel_rfl) fun R f v N K => by kernel_rfl
theorem slices_IndexFunc_tells : Tells Tryz.prog 64 slices_IndexFunc_m.c := slices_IndexFunc_m.tells Tryz.func64 (show ∀ p, arun slices_IndexFunc_env Tryz.f64 (slices_IndexFunc_m.enc p).1 (slices_IndexFunc_m.enc p).2 = _ from fun p => by kernel_rfl) (loopsL [loopOf 2 Tryz.f64] (by kernel_rfl) ⟨lpT (by kernel_rfl) slices_IndexFunc_l2_tells, trivial⟩) (.cons door_outOfRange_tells .nil)
noncomputable def slices_IndexFunc (s : Sq Int) : Option (Int) := slices_IndexFunc_m.val s
theorem slices_IndexFunc_eq (s : Sq Int) : slices_IndexFunc s = (slices_IndexFunc_t s).get := slices_IndexFunc_m.val_eq (fun x => sqD dI (gd x.1 0)) (fun p => by kernel_rfl) s

/-! slices.ContainsFunc[[]int,int] -/
noncomputable def slices_ContainsFunc_t (s : Sq Int) : DT (Bool) :=
 .bind (slices_IndexFunc s) fun z0 =>
 .leaf (decide (z0 ≥ (0 : Int)))
noncomputable def slices_ContainsFunc_m : FnM := flM ((Sq Int)) (Bool) (fun p => ([sqA 1 (eI .i64) p, .fn 132 []], [])) (fun p => slices_ContainsFunc_t p) (fun r => .bool r) (fun _ => rfl)
noncomputable def slices_ContainsFunc_env : Env := envM [(64, slices_IndexFunc_m.c)] [] [] [] [] 0
theorem slices_ContainsFunc_tells : Tells Tryz.prog 32 slices_ContainsFunc_m.c := slices_ContainsFunc_m.tells Tryz.func32 (show ∀ p, arun slices_ContainsFunc_env Tryz.f32 (slices_ContainsFunc_m.enc p).1 (slices_ContainsFunc_m.enc p).2 = _ from fun p => by kernel_rfl) noLoops (.cons slices_IndexFunc_tells .nil)
noncomputable def slices_ContainsFunc (s : Sq Int) : Option (Bool) := slices_ContainsFunc_m.val s
theorem slices_ContainsFunc_eq (s : Sq Int) : slices_ContainsFunc s = (slices_ContainsFunc_t s).get := slices_ContainsFunc_m.val_eq (fun x => sqD dI (gd x.1 0)) (fun p => by kernel_rfl) s

/-! minecontrol/door.descend -/
noncomputable def door_descend_l2_step (u2_0 : Sq Int) (u2_2 : Int) : DT (LR (Int) (Unit) (Unit)) :=
 .ite (decide (u2_2 < ((u2_0.n : Nat) : Int))) (
 .ite (decide (u2_2 > (0 : Int))) (
 .ite (decide ((0 : Int) ≤ u2_2 ∧ u2_2 < ((u2_0.n : Nat) : Int))) (
 .ite (decide ((0 : Int) ≤ (wr (u2_2 - (1 : Int))) ∧ (wr (u2_2 - (1 : Int))) < ((u2_0.n : Nat) : Int))) (
 .ite (decide ((u2_0.f (Int.toNat u2_2)) ≥ (u2_0.f (Int.toNat (wr (u2_2 - (1 : Int))))))) (
 .leaf (.r ())) (
 .leaf (.next (wr (u2_2 + (1 : Int)))))) (
 .fail)) (
 .fail)) (
 .leaf (.next (wr (u2_2 + (1 : Int)))))) (
 .leaf (.l ()))
noncomputable def door_descend_l2_m : LpM := ⟨(Sq Int), Int, Unit, Unit, fun p => ⟨[(0, sqA 1 (eI .i64) p.1), (5, .int .i64 ((p.1.n : Nat) : Int)), (6, .int .i64 p.2)], [], 256⟩, fun f v => door_descend_l2_step f v, false, (.exit 0), (fun _ _ => ⟨[(2, .undef)], [], 256⟩), .ret, (fun _ _ => ⟨[(2, .bool false)], [], 256⟩), c1, c1k⟩
noncomputable def door_descend_l2 (u2_0 : Sq Int) (u2_2 : Int) : Option ((Unit) ⊕ (Unit)) := door_descend_l2_m.val (u2_0, u2_2)
theorem door_descend_l2_eq (u2_0 : Sq Int) (u2_2 : Int) : door_descend_l2 u2_0 u2_2 = fixO (fun v : Int => door_descend_l2_step u2_0 v) u2_2 := door_descend_l2_m.val_eq (fun x => (sqD dI (aget x.tm 0), intA (aget x.tm 6))) (fun p => by kernel_rfl) (u2_0, u2_2)
noncomputable def door_descend_t (l : Sq Int) : DT (Bool) :=
 .sum (door_descend_l2 l (0 : Int)) (fun _ =>
 .leaf true) (fun _ => .leaf false)
noncomputable def door_descend_m : FnM := flM ((Sq Int)) (Bool) (fun p => ([sqA 1 (eI .i64) p], [])) (fun p => door_descend_t p) (fun r => .bool r) (fun _ => rfl)
noncomputable def door_descend_env : Env := envM [] [(2, [0, 5, 6], [2])] [(2, door_descend_l2_m.c)] [] [(2, [])] 0
noncomputable def door_descend_e : Env := { door_descend_env with nt := 24 }
theorem door_descend_l2_tells : LoopTells door_descend_e (loopOf 2 Tryz.f133) door_descend_l2_m.c := door_descend_l2_m.tells 256 (fun _ => by kernel_rfl) (fun _ _ _ _ => by kernel_rfl) (fun _ _ _ _ => by kernel_rfl) fun R f v N K => by kernel_rfl
theorem door_descend_tells : Tells Tryz.prog 133 door_descend_m.c := door_descend_m.tells Tryz.func133 (show ∀ p, arun door_descend_env Tryz.f133 (door_descend_m.enc p).1 (door_descend_m.enc p).2 = _ from fun p => by kernel_rfl) (loopsL [loopOf 2 Tryz.f133] (by kernel_rfl) ⟨lpT (by kernel_rfl) door_descend_l2_tells, trivial⟩) .nil
noncomputable def door_descend (l : Sq Int) : Option (Bool) := door_descend_m.val l
theorem door_descend_eq (l : Sq Int) : door_descend l = (door_descend_t l).get := door_descend_m.val_eq (fun x => sqD dI (gd x.1 0)) (fun p => by kernel_rfl) l

/-! minecontrol/door.has -/
noncomputable def door_has_t (things number : Int) : DT (Bool) :=
 .ite (decide ((0 : Int) ≤ number)) (.leaf (decide (number < things))) (.leaf false)
noncomputable def door_has_m : FnM := flM (Int × Int) (Bool) (fun p => ([.int .i64 p.1, .int .i64 p.2], [])) (fun p => door_has_t p.1 p.2) (fun r => .bool r) (fun _ => rfl)
noncomputable def door_has_env : Env := envM [] [] [] [] [] 0
theorem door_has_tells : Tells Tryz.prog 122 door_has_m.c := door_has_m.tells Tryz.func122 (show ∀ p, arun door_has_env Tryz.f122 (door_has_m.enc p).1 (door_has_m.enc p).2 = _ from fun p => by kernel_rfl) noLoops .nil
noncomputable def door_has (things number : Int) : Option (Bool) := door_has_m.val (things, number)
theorem door_has_eq (things number : Int) : door_has things number = (door_has_t things number).get := door_has_m.val_eq (fun x => (intA (gd x.1 0), intA (gd x.1 1))) (fun p => by kernel_rfl) (things, number)

/-! minecontrol/door.paired -/
noncomputable def door_paired_t (l : Sq SDoor) (i : Int) : DT (Bool) :=
 .ite (decide ((0 : Int) ≤ i ∧ i < ((l.n : Nat) : Int))) (
 .ite ((l.f (Int.toNat i)).Other == (-1 : Int)) (
 .leaf true) (
 .ite ((l.f (Int.toNat i)).Other != i) (
 .bind (door_has ((l.n : Nat) : Int) (l.f (Int.toNat i)).Other) fun z0 =>
 .ite z0 (
 .ite (decide ((0 : Int) ≤ (l.f (Int.toNat i)).Other ∧ (l.f (Int.toNat i)).Other < ((l.n : Nat) : Int))) (.leaf ((l.f (Int.toNat (l.f (Int.toNat i)).Other)).Other == i)) (.fail)) (
 .leaf false)) (
 .leaf false))) (
 .fail)
noncomputable def door_paired_m : FnM := flM ((Sq SDoor) × Int) (Bool) (fun p => ([sqA 3 SDoor.enc p.1, .int .i64 p.2], [])) (fun p => door_paired_t p.1 p.2) (fun r => .bool r) (fun _ => rfl)
noncomputable def door_paired_env : Env := envM [(122, door_has_m.c)] [] [] [] [] 0
theorem door_paired_tells : Tells Tryz.prog 134 door_paired_m.c := door_paired_m.tells Tryz.func134 (show ∀ p, arun door_paired_env Tryz.f134 (door_paired_m.enc p).1 (door_paired_m.enc p).2 = _ from fun p => by kernel_rfl) noLoops (.cons door_has_tells .nil)
noncomputable def door_paired (l : Sq SDoor) (i : Int) : Option (Bool) := door_paired_m.val (l, i)
theorem door_paired_eq (l : Sq SDoor) (i : Int) : door_paired l i = (door_paired_t l i).get := door_paired_m.val_eq (fun x => (sqD SDoor.dec (gd x.1 0), intA (gd x.1 1))) (fun p => by kernel_rfl) (l, i)

/-! minecontrol/door.checkDoor -/
noncomputable def door_checkDoor_t (l : Sq SDoor) (i : Int) : DT (Int) :=
 .ite (decide ((0 : Int) ≤ i ∧ i < ((l.n : Nat) : Int))) (
 .ite (decide ((l.f (Int.toNat i)).Road < (0 : Int))) (
 .leaf (4 : Int)) (
 .ite (decide ((((l.f (Int.toNat i)).Rests.n : Nat) : Int) < (2 : Int))) (
 .leaf (2 : Int)) (
 .ite (decide ((((l.f (Int.toNat i)).Rests.n : Nat) : Int) > (6 : Int))) (
 .leaf (2 : Int)) (
 .bind (slices_ContainsFunc (l.f (Int.toNat i)).Rests) fun z0 =>
 .ite z0 (
 .leaf (1 : Int)) (
 .bind (door_descend (l.f (Int.toNat i)).Rests) fun z1 =>
 .ite (!z1) (
 .leaf (15 : Int)) (
 .bind (door_paired l i) fun z2 =>
 .ite (!z2) (.leaf (15 : Int)) (.leaf (0 : Int)))))))) (
 .fail)
noncomputable def door_checkDoor_m : FnM := flM ((Sq SDoor) × Int) (Int) (fun p => ([sqA 3 SDoor.enc p.1, .int .i64 p.2], [])) (fun p => door_checkDoor_t p.1 p.2) (fun r => .int .i64 r) (fun _ => rfl)
noncomputable def door_checkDoor_env : Env := envM [(32, slices_ContainsFunc_m.c), (133, door_descend_m.c), (134, door_paired_m.c)] [] [] [] [] 0
theorem door_checkDoor_tells : Tells Tryz.prog 108 door_checkDoor_m.c := door_checkDoor_m.tells Tryz.func108 (show ∀ p, arun door_checkDoor_env Tryz.f108 (door_checkDoor_m.enc p).1 (door_checkDoor_m.enc p).2 = _ from fun p => by kernel_rfl) noLoops (.cons slices_ContainsFunc_tells (.cons door_descend_tells (.cons door_paired_tells .nil)))
noncomputable def door_checkDoor (l : Sq SDoor) (i : Int) : Option (Int) := door_checkDoor_m.val (l, i)
theorem door_checkDoor_eq (l : Sq SDoor) (i : Int) : door_checkDoor l i = (door_checkDoor_t l i).get := door_checkDoor_m.val_eq (fun x => (sqD SDoor.dec (gd x.1 0), intA (gd x.1 1))) (fun p => by kernel_rfl) (l, i)

/-! minecontrol/door.Check -/
noncomputable def door_Check_l4_step (u4_0 : Sq SDoor) (u4_2 : Int) : DT (LR (Int) (Unit) (Int)) :=
 .ite (decide (u4_2 < ((u4_0.n : Nat) : Int))) (
 .bind (door_checkDoor u4_0 u4_2) fun z0 =>
 .ite (z0 != (0 : Int)) (
 .leaf (.r z0)) (
 .leaf (.next (wr (u4_2 + (1 : Int)))))) (
 .leaf (.l ()))
noncomputable def door_Check_l4_m : LpM := ⟨(Sq SDoor), Int, Unit, Int, fun p => ⟨[(0, sqA 3 SDoor.enc p.1), (9, .int .i64 ((p.1.n : Nat) : Int)), (10, .int .i64 p.2)], [], 512⟩, fun f v => door_Check_l4_step f v, false, (.exit 0), (fun _ _ => ⟨[(2, .undef)], [], 512⟩), .ret, (fun _ a => ⟨[(2, .int .i64 a)], [], 512⟩), c1, c1k⟩
noncomputable def door_Check_l4 (u4_0 : Sq SDoor) (u4_2 : Int) : Option ((Unit) ⊕ (Int)) := door_Check_l4_m.val (u4_0, u4_2)
theorem door_Check_l4_eq (u4_0 : Sq SDoor) (u4_2 : Int) : door_Check_l4 u4_0 u4_2 = fixO (fun v : Int => door_Check_l4_step u4_0 v) u4_2 := door_Check_l4_m.val_eq (fun x => (sqD SDoor.dec (aget x.tm 0), intA (aget x.tm 10))) (fun p => by kernel_rfl) (u4_0, u4_2)
noncomputable def door_Check_t (l : Sq SDoor) : DT (Int) :=
 .ite (decide (((l.n : Nat) : Int) > (16 : Int))) (
 .leaf (2 : Int)) (
 .sum (door_Check_l4 l (0 : Int)) (fun _ =>
 .leaf (0 : Int)) (fun y0 => .leaf y0))
noncomputable def door_Check_m : FnM := flM ((Sq SDoor)) (Int) (fun p => ([sqA 3 SDoor.enc p], [])) (fun p => door_Check_t p) (fun r => .int .i64 r) (fun _ => rfl)
noncomputable def door_Check_env : Env := envM [(108, door_checkDoor_m.c)] [(4, [0, 9, 10], [2])] [(4, door_Check_l4_m.c)] [] [(4, [])] 0
noncomputable def door_Check_e : Env := { door_Check_env with nt := 20 }
theorem door_Check_l4_tells : LoopTells door_Check_e (loopOf 4 Tryz.f87) door_Check_l4_m.c := door_Check_l4_m.tells 512 (fun _ => by kernel_rfl) (fun _ _ _ _ => by kernel_rfl) (fun _ _ _ _ => by kernel_rfl) fun R f v N K => by kernel_rfl
theorem door_Check_tells : Tells Tryz.prog 87 door_Check_m.c := door_Check_m.tells Tryz.func87 (show ∀ p, arun door_Check_env Tryz.f87 (door_Check_m.enc p).1 (door_Check_m.enc p).2 = _ from fun p => by kernel_rfl) (loopsL [loopOf 4 Tryz.f87] (by kernel_rfl) ⟨lpT (by kernel_rfl) door_Check_l4_tells, trivial⟩) (.cons door_checkDoor_tells .nil)
noncomputable def door_Check (l : Sq SDoor) : Option (Int) := door_Check_m.val l
theorem door_Check_eq (l : Sq SDoor) : door_Check l = (door_Check_t l).get := door_Check_m.val_eq (fun x => sqD SDoor.dec (gd x.1 0)) (fun p => by kernel_rfl) l

/-! minecontrol/branch.checkDoors -/
noncomputable def branch_checkDoors_l5_step (u5_0 : Sq SDoor) (u5_2 : Sq SPlace) (u5_3 : Sq SRoad) (u5_4 : Sq SFan) (u5_5 : Int) : DT (LR (Int) (Unit) (Unit)) :=
 .ite (decide (u5_5 < ((u5_0.n : Nat) : Int))) (
 .ite (decide ((0 : Int) ≤ u5_5 ∧ u5_5 < ((u5_0.n : Nat) : Int))) (
 .bind (branch_hasRoad (SAir.mk (SMine.mk u5_2 u5_3) u5_4 u5_0) (u5_0.f (Int.toNat u5_5)).Road) fun z0 =>
 .ite (!z0) (
 .leaf (.r ())) (
 .leaf (.next (wr (u5_5 + (1 : Int)))))) (
 .fail)) (
 .leaf (.l ()))
noncomputable def branch_checkDoors_l5_m : LpM := ⟨(Sq SDoor) × (Sq SPlace) × (Sq SRoad) × (Sq SFan), Int, Unit, Unit, fun p => ⟨[(1, .ptr 0 0), (13, sqA 3 SDoor.enc p.1.1), (14, .int .i64 ((p.1.1.n : Nat) : Int)), (15, .int .i64 p.2)], [(0, .var [sqA 2 SPlace.enc p.1.2.1, sqA 10 SRoad.enc p.1.2.2.1, sqA 4 SFan.enc p.1.2.2.2, sqA 3 SDoor.enc p.1.1])], 896⟩, fun f v => branch_checkDoors_l5_step f.1 f.2.1 f.2.2.1 f.2.2.2 v, false, (.exit 0), (fun x _ => ⟨[(2, .undef)], [(0, blkS x 0)], 896⟩), .ret, (fun x _ => ⟨[(2, .int .i64 (4 : Int))], [(0, blkS x 0)], 896⟩), c1, c1k⟩
noncomputable def branch_checkDoors_l5 (u5_0 : Sq SDoor) (u5_2 : Sq SPlace) (u5_3 : Sq SRoad) (u5_4 : Sq SFan) (u5_5 : Int) : Option ((Unit) ⊕ (Unit)) := branch_checkDoors_l5_m.val ((u5_0, u5_2, u5_3, u5_4), u5_5)
theorem branch_checkDoors_l5_eq (u5_0 : Sq SDoor) (u5_2 : Sq SPlace) (u5_3 : Sq SRoad) (u5_4 : Sq SFan) (u5_5 : Int) : branch_checkDoors_l5 u5_0 u5_2 u5_3 u5_4 u5_5 = fixO (fun v : Int => branch_checkDoors_l5_step u5_0 u5_2 u5_3 u5_4 v) u5_5 := branch_checkDoors_l5_m.val_eq (fun x => ((sqD SDoor.dec (aget x.tm 13), sqD SPlace.dec (cellS x 0 0), sqD SRoad.dec (cellS x 0 1), sqD SFan.dec (cellS x 0 2)), intA (aget x.tm 15))) (fun p => by kernel_rfl) ((u5_0, u5_2, u5_3, u5_4), u5_5)
noncomputable def branch_checkDoors_t (a : SAir) : DT (Int) :=
 .bind (door_Check a.Doors) fun z1 =>
 .ite (z1 != (0 : Int)) (
 .leaf z1) (
 .sum (branch_checkDoors_l5 a.Doors a.Mine.Places a.Mine.Roads a.Fans (0 : Int)) (fun _ =>
 .leaf (0 : Int)) (fun _ => .leaf (4 : Int)))
noncomputable def branch_checkDoors_m : FnM := flM (SAir) (Int) (fun p => ([.agg (SAir.enc p)], [])) (fun p => branch_checkDoors_t p) (fun r => .int .i64 r) (fun _ => rfl)
noncomputable def branch_checkDoors_env : Env := envM [(87, door_Check_m.c), (86, branch_hasRoad_m.c)] [(5, [1, 13, 14, 15], [2])] [(5, branch_checkDoors_l5_m.c)] [] [(5, [0])] 0
noncomputable def branch_checkDoors_e : Env := { branch_checkDoors_env with nt := 25 }
theorem branch_checkDoors_l5_tells : LoopTells branch_checkDoors_e (loopOf 5 Tryz.f63) branch_checkDoors_l5_m.c := branch_checkDoors_l5_m.tells 896 (fun _ => by kernel_rfl) (fun _ _ _ _ => by kernel_rfl) (fun _ _ _ _ => by kernel_rfl) fun R f v N K => by kernel_rfl
theorem branch_checkDoors_tells : Tells Tryz.prog 63 branch_checkDoors_m.c := branch_checkDoors_m.tells Tryz.func63 (show ∀ p, arun branch_checkDoors_env Tryz.f63 (branch_checkDoors_m.enc p).1 (branch_checkDoors_m.enc p).2 = _ from fun p => by kernel_rfl) (loopsL [loopOf 5 Tryz.f63] (by kernel_rfl) ⟨lpT (by kernel_rfl) branch_checkDoors_l5_tells, trivial⟩) (.cons door_Check_tells (.cons branch_hasRoad_tells .nil))
noncomputable def branch_checkDoors (a : SAir) : Option (Int) := branch_checkDoors_m.val a
theorem branch_checkDoors_eq (a : SAir) : branch_checkDoors a = (branch_checkDoors_t a).get := branch_checkDoors_m.val_eq (fun x => SAir.dec (aggL (gd x.1 0))) (fun p => by kernel_rfl) a

/-! minecontrol/branch.Check -/
noncomputable def branch_Check_t (a : SAir) : DT (Int) :=
 .bind (plan_Check a.Mine) fun z0 =>
 .ite (z0 != (0 : Int)) (
 .leaf z0) (
 .bind (branch_checkFans a) fun z1 =>
 .ite (z1 != (0 : Int)) (
 .leaf z1) (
 .bind (branch_checkDoors a) fun z2 =>
 .leaf z2))
noncomputable def branch_Check_m : FnM := flM (SAir) (Int) (fun p => ([.agg (SAir.enc p)], [])) (fun p => branch_Check_t p) (fun r => .int .i64 r) (fun _ => rfl)
noncomputable def branch_Check_env : Env := envM [(61, plan_Check_m.c), (62, branch_checkFans_m.c), (63, branch_checkDoors_m.c)] [] [] [] [] 0
theorem branch_Check_tells : Tells Tryz.prog 30 branch_Check_m.c := branch_Check_m.tells Tryz.func30 (show ∀ p, arun branch_Check_env Tryz.f30 (branch_Check_m.enc p).1 (branch_Check_m.enc p).2 = _ from fun p => by kernel_rfl) noLoops (.cons plan_Check_tells (.cons branch_checkFans_tells (.cons branch_checkDoors_tells .nil)))
noncomputable def branch_Check (a : SAir) : Option (Int) := branch_Check_m.val a
theorem branch_Check_eq (a : SAir) : branch_Check a = (branch_Check_t a).get := branch_Check_m.val_eq (fun x => SAir.dec (aggL (gd x.1 0))) (fun p => by kernel_rfl) a

/-! minecontrol/branch.belongs -/
noncomputable def branch_belongs_l4_step (u4_0 : Sq Int) (_u4_2 : Sq SPlace) (_u4_3 : Sq SRoad) (_u4_4 : Sq SFan) (_u4_5 : Sq SDoor) (_u4_6 : Sq Int) (u4_7 : Int) : DT (LR (Int) (Unit) (Unit)) :=
 .ite (decide (u4_7 < ((u4_0.n : Nat) : Int))) (
 .ite (decide ((0 : Int) ≤ u4_7 ∧ u4_7 < ((u4_0.n : Nat) : Int))) (
 .bind (branch_within (u4_0.f (Int.toNat u4_7)) (-1 : Int) (2 : Int)) fun z0 =>
 .ite (!z0) (
 .leaf (.r ())) (
 .leaf (.next (wr (u4_7 + (1 : Int)))))) (
 .fail)) (
 .leaf (.l ()))
noncomputable def branch_belongs_l4_m : LpM := ⟨(Sq Int) × (Sq SPlace) × (Sq SRoad) × (Sq SFan) × (Sq SDoor) × (Sq Int), Int, Unit, Unit, fun p => ⟨[(2, .ptr 0 0), (3, .ptr 64 0), (26, sqA 1 (eI .i64) p.1.1), (27, .int .i64 ((p.1.1.n : Nat) : Int)), (28, .int .i64 p.2)], [(0, .var [sqA 2 SPlace.enc p.1.2.1, sqA 10 SRoad.enc p.1.2.2.1, sqA 4 SFan.enc p.1.2.2.2.1, sqA 3 SDoor.enc p.1.2.2.2.2.1]), (64, .var [sqA 1 (eI .i64) p.1.1, sqA 1 (eI .i64) p.1.2.2.2.2.2])], 1536⟩, fun f v => branch_belongs_l4_step f.1 f.2.1 f.2.2.1 f.2.2.2.1 f.2.2.2.2.1 f.2.2.2.2.2 v, false, (.exit 0), (fun x _ => ⟨[(2, .ptr 0 0), (3, .ptr 64 0), (4, .undef)], [(0, blkS x 0), (64, blkS x 64)], 1536⟩), .ret, (fun x _ => ⟨[(2, .ptr 0 0), (3, .ptr 64 0), (4, .bool false)], [(0, blkS x 0), (64, blkS x 64)], 1536⟩), c1, c1k⟩
noncomputable def branch_belongs_l4 (u4_0 : Sq Int) (u4_2 : Sq SPlace) (u4_3 : Sq SRoad) (u4_4 : Sq SFan) (u4_5 : Sq SDoor) (u4_6 : Sq Int) (u4_7 : Int) : Option ((Unit) ⊕ (Unit)) := branch_belongs_l4_m.val ((u4_0, u4_2, u4_3, u4_4, u4_5, u4_6), u4_7)
theorem branch_belongs_l4_eq (u4_0 : Sq Int) (u4_2 : Sq SPlace) (u4_3 : Sq SRoad) (u4_4 : Sq SFan) (u4_5 : Sq SDoor) (u4_6 : Sq Int) (u4_7 : Int) : branch_belongs_l4 u4_0 u4_2 u4_3 u4_4 u4_5 u4_6 u4_7 = fixO (fun v : Int => branch_belongs_l4_step u4_0 u4_2 u4_3 u4_4 u4_5 u4_6 v) u4_7 := branch_belongs_l4_m.val_eq (fun x => ((sqD dI (aget x.tm 26), sqD SPlace.dec (cellS x 0 0), sqD SRoad.dec (cellS x 0 1), sqD SFan.dec (cellS x 0 2), sqD SDoor.dec (cellS x 0 3), sqD dI (cellS x 64 1)), intA (aget x.tm 28))) (fun p => by kernel_rfl) ((u4_0, u4_2, u4_3, u4_4, u4_5, u4_6), u4_7)
noncomputable def branch_belongs_l10_step (u10_0 : Sq Int) (_u10_2 : Sq SPlace) (_u10_3 : Sq SRoad) (_u10_4 : Sq SFan) (u10_5 : Sq SDoor) (u10_6 : Int) : DT (LR (Int) (Unit) (Unit)) :=
 .ite (decide (u10_6 < ((u10_0.n : Nat) : Int))) (
 .ite (decide ((0 : Int) ≤ u10_6 ∧ u10_6 < ((u10_0.n : Nat) : Int))) (
 .ite (decide ((0 : Int) ≤ u10_6 ∧ u10_6 < ((u10_5.n : Nat) : Int))) (
 .bind (branch_within (u10_0.f (Int.toNat u10_6)) (-1 : Int) (wr ((((u10_5.f (Int.toNat u10_6)).Rests.n : Nat) : Int) - (1 : Int)))) fun z1 =>
 .ite (!z1) (
 .leaf (.r ())) (
 .leaf (.next (wr (u10_6 + (1 : Int)))))) (
 .fail)) (
 .fail)) (
 .leaf (.l ()))
noncomputable def branch_belongs_l10_m : LpM := ⟨(Sq Int) × (Sq SPlace) × (Sq SRoad) × (Sq SFan) × (Sq SDoor), Int, Unit, Unit, fun p => ⟨[(2, .ptr 0 0), (37, sqA 1 (eI .i64) p.1.1), (38, .int .i64 ((p.1.1.n : Nat) : Int)), (39, .int .i64 p.2)], [(0, .var [sqA 2 SPlace.enc p.1.2.1, sqA 10 SRoad.enc p.1.2.2.1, sqA 4 SFan.enc p.1.2.2.2.1, sqA 3 SDoor.enc p.1.2.2.2.2])], 1792⟩, fun f v => branch_belongs_l10_step f.1 f.2.1 f.2.2.1 f.2.2.2.1 f.2.2.2.2 v, false, (.exit 2), (fun x _ => ⟨[(4, .undef)], [(0, blkS x 0)], 1792⟩), .ret, (fun x _ => ⟨[(4, .bool false)], [(0, blkS x 0)], 1792⟩), c1, c1k⟩
noncomputable def branch_belongs_l10 (u10_0 : Sq Int) (u10_2 : Sq SPlace) (u10_3 : Sq SRoad) (u10_4 : Sq SFan) (u10_5 : Sq SDoor) (u10_6 : Int) : Option ((Unit) ⊕ (Unit)) := branch_belongs_l10_m.val ((u10_0, u10_2, u10_3, u10_4, u10_5), u10_6)
theorem branch_belongs_l10_eq (u10_0 : Sq Int) (u10_2 : Sq SPlace) (u10_3 : Sq SRoad) (u10_4 : Sq SFan) (u10_5 : Sq SDoor) (u10_6 : Int) : branch_belongs_l10 u10_0 u10_2 u10_3 u10_4 u10_5 u10_6 = fixO (fun v : Int => branch_belongs_l10_step u10_0 u10_2 u10_3 u10_4 u10_5 v) u10_6 := branch_belongs_l10_m.val_eq (fun x => ((sqD dI (aget x.tm 37), sqD SPlace.dec (cellS x 0 0), sqD SRoad.dec (cellS x 0 1), sqD SFan.dec (cellS x 0 2), sqD SDoor.dec (cellS x 0 3)), intA (aget x.tm 39))) (fun p => by kernel_rfl) ((u10_0, u10_2, u10_3, u10_4, u10_5), u10_6)
noncomputable def branch_belongs_t (a : SAir) (s : SSetting) : DT (Bool) :=
 .ite (((s.Fans.n : Nat) : Int) != ((a.Fans.n : Nat) : Int)) (
 .leaf false) (
 .ite (((s.Doors.n : Nat) : Int) != ((a.Doors.n : Nat) : Int)) (
 .leaf false) (
 .sum (branch_belongs_l4 s.Fans a.Mine.Places a.Mine.Roads a.Fans a.Doors s.Doors (0 : Int)) (fun _ =>
 .sum (branch_belongs_l10 s.Doors a.Mine.Places a.Mine.Roads a.Fans a.Doors (0 : Int)) (fun _ =>
 .leaf true) (fun _ => .leaf false)) (fun _ => .leaf false)))
noncomputable def branch_belongs_m : FnM := flM (SAir × SSetting) (Bool) (fun p => ([.agg (SAir.enc p.1), .agg (SSetting.enc p.2)], [])) (fun p => branch_belongs_t p.1 p.2) (fun r => .bool r) (fun _ => rfl)
noncomputable def branch_belongs_env : Env := envM [(74, branch_within_m.c)] [(4, [2, 3, 26, 27, 28], [2, 3, 4]), (10, [2, 37, 38, 39], [4])] [(4, branch_belongs_l4_m.c), (10, branch_belongs_l10_m.c)] [] [(4, [0, 64]), (10, [0])] 0
noncomputable def branch_belongs_e : Env := { branch_belongs_env with nt := 56 }
theorem branch_belongs_l4_tells : LoopTells branch_belongs_e (loopOf 4 Tryz.f47) branch_belongs_l4_m.c := branch_belongs_l4_m.tells 1536 (fun _ => by kernel_rfl) (fun _ _ _ _ => by kernel_rfl) (fun _ _ _ _ => by kernel_rfl) fun R f v N K => by kernel_rfl
theorem branch_belongs_l10_tells : LoopTells branch_belongs_e (loopOf 10 Tryz.f47) branch_belongs_l10_m.c := branch_belongs_l10_m.tells 1792 (fun _ => by kernel_rfl) (fun _ _ _ _ => by kernel_rfl) (fun _ _ _ _ => by kernel_rfl) fun R f v N K => by kernel_rfl
theorem branch_belongs_tells : Tells Tryz.prog 47 branch_belongs_m.c := branch_belongs_m.tells Tryz.func47 (show ∀ p, arun branch_belongs_env Tryz.f47 (branch_belongs_m.enc p).1 (branch_belongs_m.enc p).2 = _ from fun p => by kernel_rfl) (loopsL [loopOf 4 Tryz.f47, loopOf 10 Tryz.f47] (by kernel_rfl) ⟨lpT (by kernel_rfl) branch_belongs_l4_tells, ⟨lpT (by kernel_rfl) branch_belongs_l10_tells, trivial⟩⟩) (.cons branch_within_tells .nil)
noncomputable def branch_belongs (a : SAir) (s : SSetting) : Option (Bool) := branch_belongs_m.val (a, s)
theorem branch_belongs_eq (a : SAir) (s : SSetting) : branch_belongs a s = (branch_belongs_t a s).get := branch_belongs_m.val_eq (fun x => (SAir.dec (aggL (gd x.1 0)), SSetting.dec (aggL (gd x.1 1)))) (fun p => by kernel_rfl) (a, s)

/-! minecontrol/branch.Right -/
noncomputable def branch_Right_t (a : SAir) (s : SSetting) : DT (Bool) :=
 .bind (branch_Check a) fun z0 =>
 .ite (z0 == (0 : Int)) (
 .bind (branch_belongs a s) fun z1 =>
 .leaf z1) (
 .leaf false)
noncomputable def branch_Right_m : FnM := flM (SAir × SSetting) (Bool) (fun p => ([.agg (SAir.enc p.1), .agg (SSetting.enc p.2)], [])) (fun p => branch_Right_t p.1 p.2) (fun r => .bool r) (fun _ => rfl)
noncomputable def branch_Right_env : Env := envM [(30, branch_Check_m.c), (47, branch_belongs_m.c)] [] [] [] [] 0
theorem branch_Right_tells : Tells Tryz.prog 31 branch_Right_m.c := branch_Right_m.tells Tryz.func31 (show ∀ p, arun branch_Right_env Tryz.f31 (branch_Right_m.enc p).1 (branch_Right_m.enc p).2 = _ from fun p => by kernel_rfl) noLoops (.cons branch_Check_tells (.cons branch_belongs_tells .nil))
noncomputable def branch_Right (a : SAir) (s : SSetting) : Option (Bool) := branch_Right_m.val (a, s)
theorem branch_Right_eq (a : SAir) (s : SSetting) : branch_Right a s = (branch_Right_t a s).get := branch_Right_m.val_eq (fun x => (SAir.dec (aggL (gd x.1 0)), SSetting.dec (aggL (gd x.1 1)))) (fun p => by kernel_rfl) (a, s)
end Go.Proofs.YtnoeblpanfbpjaaGreat.Ab
