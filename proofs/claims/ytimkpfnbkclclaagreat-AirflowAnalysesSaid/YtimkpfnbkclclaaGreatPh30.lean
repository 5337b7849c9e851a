/- A part of the proof, what is needed of it. -/
import Derived.Test.YtimkpfnbkclclaaGreatPh25
import Derived.Test.YtimkpfnbkclclaaGreatPh28
namespace Go.Proofs.YtimkpfnbkclclaaGreat.Ab
noncomputable section
open Go
attribute [local irreducible] arun
def Iu (u12_0 : Sq Int) (u12_1 : Sq Bool) (u12_2 : Int) : DT (LR (Int) (Unit) (Unit)) :=
 .ite (decide (u12_2 < ((u12_0.n : Nat) : Int))) (
 .ite (decide ((0 : Int) ≤ u12_2 ∧ u12_2 < ((u12_1.n : Nat) : Int))) (
 .ite (u12_1.f (Int.toNat u12_2)) (
 .ite (decide ((0 : Int) ≤ u12_2 ∧ u12_2 < ((u12_0.n : Nat) : Int))) (
 .ite ((u12_0.f (Int.toNat u12_2)) != (0 : Int)) (
 .leaf (.r ())) (
 .leaf (.next (wr (u12_2 + (1 : Int)))))) (
 .fail)) (
 .leaf (.next (wr (u12_2 + (1 : Int)))))) (
 .fail)) (
 .leaf (.l ()))
def zF : LpM := ⟨(Sq Int) × (Sq Bool), Int, Unit, Unit, fun p => ⟨[(2, sqA 1 (eI .i64) p.1.1), (8, .own 1856 0), (9, .int .i64 p.2)], [(1856, rowA 0 1 4 eO p.1.2)], 2048⟩, fun f v => Iu f.1 f.2 v, false, (.exit 0), (fun x _ => ⟨[(6, .undef)], [(1856, blkS x 1856)], 2048⟩), .ret, (fun x _ => ⟨[(6, .int .i64 (12 : Int))], [(1856, blkS x 1856)], 2048⟩), c1, c1k⟩
def Q9 (u12_0 : Sq Int) (u12_1 : Sq Bool) (u12_2 : Int) : Option ((Unit) ⊕ (Unit)) := zF.val ((u12_0, u12_1), u12_2)
theorem afe (u12_0 : Sq Int) (u12_1 : Sq Bool) (u12_2 : Int) : Q9 u12_0 u12_1 u12_2 = fixO (fun v : Int => Iu u12_0 u12_1 v) u12_2 := zF.val_eq (fun x => ((sqD dI (aget x.tm 2), sqB dO (blkS x 1856)), intA (aget x.tm 9))) (fun p => by kernel_rfl) ((u12_0, u12_1), u12_2)
def Xx (a : SAir) (s : qz) (start : Sq Int) : DT (Int) :=
 .bind (Gg a) fun z0 =>
 .ite (z0 != (0 : Int)) (
 .leaf z0) (
 .bind (Gi a s) fun z1 =>
 .ite (!z1) (
 .leaf (21 : Int)) (
 .ite (((start.n : Nat) : Int) != ((a.Mine.Places.n : Nat) : Int)) (
 .leaf (11 : Int)) (
 .bind (K3 start) fun z2 =>
 .ite (!z2) (
 .leaf (1 : Int)) (
 .bind (Nz a.Mine) fun z3 =>
 .sum (Q9 start z3 (0 : Int)) (fun _ =>
 .leaf (0 : Int)) (fun _ => .leaf (12 : Int))))))
def Ay : FnM := flM (SAir × qz × (Sq Int)) (Int) (fun p => ([.agg (SAir.enc p.1), .agg (qz.enc p.2.1), sqA 1 (eI .i64) p.2.2], [])) (fun p => Xx p.1 p.2.1 p.2.2) (fun r => .int .i64 r) (fun _ => rfl)
def Q8 : Env := envM [(42, uP.c), (43, uR.c), (114, wK.c), (115, wG.c)] [(12, [2, 8, 9], [6])] [(12, zF.c)] [] [(12, [1856])] 0
def ado : Env := { Q8 with nt := 49 }
theorem Ra : aQ ado (qd 12 Tryz.f153) zF.c := zF.tells 2048 (fun _ => by kernel_rfl) (fun _ _ _ _ => by kernel_rfl) (fun _ _ _ _ => by kernel_rfl) fun R f v N K => by kernel_rfl
theorem YF : aI Tryz.prog 153 Ay.c := Ay.tells Tryz.func153 (show ∀ p, arun Q8 Tryz.f153 (Ay.enc p).1 (Ay.enc p).2 = _ from fun p => by kernel_rfl) (qg [qd 12 Tryz.f153] (by kernel_rfl) ⟨lpT (by kernel_rfl) Ra, trivial⟩) (.cons zw (.cons zA (.cons K4 (.cons Gl .nil))))
def abq (a : SAir) (s : qz) (start : Sq Int) : Option (Int) := Ay.val (a, s, start)
theorem ahL (a : SAir) (s : qz) (start : Sq Int) : abq a s start = (Xx a s start).get := Ay.val_eq (fun x => (SAir.dec (aggL (gd x.1 0)), qz.dec (aggL (gd x.1 1)), sqD dI (gd x.1 2))) (fun p => by kernel_rfl) (a, s, start)
def Iw (u11_0 : Bool) (_u11_1 : Sq Int) (u11_2 : Sq qA) (u11_3 : Sq qC) (u11_4 : Sq SFan) (u11_5 : Sq qD) (u11_6 u11_7 : Sq Int) (u11_8 : Sq Bool) (_u11_12 u11_9 : Int) (u11_10 : Bool) (u11_11 : Sq Int) : DT (LR (Int × Bool × (Sq Int)) (Bool × (Sq Int)) (Bool × (Sq Int))) :=
 .ite (decide (u11_9 < ((u11_11.n : Nat) : Int))) (
 .ite (decide ((0 : Int) ≤ u11_9 ∧ u11_9 < ((u11_8.n : Nat) : Int))) (
 .ite (u11_8.f (Int.toNat u11_9)) (
 .leaf (.next ((wr (u11_9 + (1 : Int))), u11_10, u11_11))) (
 .ite u11_0 (
 .bind (afb (SAir.mk (qI.mk u11_2 u11_3) u11_4 u11_5) (qz.mk u11_6 u11_7) u11_11 u11_9) fun z0 =>
 .ite (!z0.2) (
 .leaf (.r (u11_10, u11_11))) (
 .ite u11_10 (
 .ite (decide ((0 : Int) ≤ u11_9 ∧ u11_9 < ((u11_11.n : Nat) : Int))) (
 .leaf (.next ((wr (u11_9 + (1 : Int))), true, (Sq.mk u11_11.n (fun k0 => (cond (Nat.beq k0 (Int.toNat u11_9)) z0.1 (u11_11.f k0))))))) (
 .fail)) (
 .ite (decide ((0 : Int) ≤ u11_9 ∧ u11_9 < ((u11_11.n : Nat) : Int))) (
 .ite (decide ((0 : Int) ≤ u11_9 ∧ u11_9 < ((u11_11.n : Nat) : Int))) (
 .leaf (.next ((wr (u11_9 + (1 : Int))), (z0.1 != (u11_11.f (Int.toNat u11_9))), (Sq.mk u11_11.n (fun k1 => (cond (Nat.beq k1 (Int.toNat u11_9)) z0.1 (u11_11.f k1))))))) (
 .fail)) (
 .fail)))) (
 .bind (acP (SAir.mk (qI.mk u11_2 u11_3) u11_4 u11_5) (qz.mk u11_6 u11_7) u11_11 u11_9) fun z1 =>
 .ite (!z1.2) (
 .leaf (.r (u11_10, u11_11))) (
 .ite u11_10 (
 .ite (decide ((0 : Int) ≤ u11_9 ∧ u11_9 < ((u11_11.n : Nat) : Int))) (
 .leaf (.next ((wr (u11_9 + (1 : Int))), true, (Sq.mk u11_11.n (fun k2 => (cond (Nat.beq k2 (Int.toNat u11_9)) z1.1 (u11_11.f k2))))))) (
 .fail)) (
 .ite (decide ((0 : Int) ≤ u11_9 ∧ u11_9 < ((u11_11.n : Nat) : Int))) (
 .ite (decide ((0 : Int) ≤ u11_9 ∧ u11_9 < ((u11_11.n : Nat) : Int))) (
 .leaf (.next ((wr (u11_9 + (1 : Int))), (z1.1 != (u11_11.f (Int.toNat u11_9))), (Sq.mk u11_11.n (fun k3 => (cond (Nat.beq k3 (Int.toNat u11_9)) z1.1 (u11_11.f k3))))))) (
 .fail)) (
 .fail)))))) (
 .fail)) (
 .leaf (.l (u11_10, u11_11)))
def zG : LpM := ⟨Bool × (Sq Int) × (Sq qA) × (Sq qC) × (Sq SFan) × (Sq qD) × (Sq Int) × (Sq Int) × (Sq Bool) × Int, Int × Bool × (Sq Int), Bool × (Sq Int), Bool × (Sq Int), fun p => ⟨[(3, .bool p.1.1), (4, .ptr 1 0), (5, .ptr 65 0), (11, .own 961 0), (12, .own 1217 0), (13, .int .i64 p.1.2.2.2.2.2.2.2.2.2), (14, .bool p.2.2.1), (15, .int .i64 p.2.1)], [(0, rowA 0 1 3 (eI .i64) p.1.2.1), (1, .var [sqA 2 qA.enc p.1.2.2.1, sqA 10 qC.enc p.1.2.2.2.1, sqA 4 SFan.enc p.1.2.2.2.2.1, sqA 3 qD.enc p.1.2.2.2.2.2.1]), (65, .var [sqA 1 (eI .i64) p.1.2.2.2.2.2.2.1, sqA 1 (eI .i64) p.1.2.2.2.2.2.2.2.1]), (129, .nilrow 0), (961, rowA 0 1 3 (eI .i64) p.2.2.2), (1217, rowA 0 1 4 eO p.1.2.2.2.2.2.2.2.2.1)], 1665⟩, fun f v => Iw f.1 f.2.1 f.2.2.1 f.2.2.2.1 f.2.2.2.2.1 f.2.2.2.2.2.1 f.2.2.2.2.2.2.1 f.2.2.2.2.2.2.2.1 f.2.2.2.2.2.2.2.2.1 f.2.2.2.2.2.2.2.2.2 v.1 v.2.1 v.2.2, false, (.exit 2), (fun x a => ⟨[(3, aget x.tm 3), (4, .ptr 1 0), (5, .ptr 65 0), (8, .undef), (9, .undef), (11, .own 961 0), (12, .own 1217 0), (13, aget x.tm 13), (14, .bool a.1)], [(0, blkS x 0), (1, blkS x 1), (65, blkS x 65), (129, .nilrow 0), (961, rowA 0 1 3 (eI .i64) a.2), (1217, blkS x 1217)], 1665⟩), .ret, (fun x a => ⟨[(3, aget x.tm 3), (4, .ptr 1 0), (5, .ptr 65 0), (8, .own 129 0), (9, .int .i64 (2 : Int)), (11, .own 961 0), (12, .own 1217 0), (13, aget x.tm 13), (14, .bool a.1)], [(0, blkS x 0), (1, blkS x 1), (65, blkS x 65), (129, .nilrow 0), (961, rowA 0 1 3 (eI .i64) a.2), (1217, blkS x 1217)], 1665⟩), c1, c1k⟩
def Rf (u11_0 : Bool) (u11_1 : Sq Int) (u11_2 : Sq qA) (u11_3 : Sq qC) (u11_4 : Sq SFan) (u11_5 : Sq qD) (u11_6 u11_7 : Sq Int) (u11_8 : Sq Bool) (u11_12 u11_9 : Int) (u11_10 : Bool) (u11_11 : Sq Int) : Option ((Bool × (Sq Int)) ⊕ (Bool × (Sq Int))) := zG.val ((u11_0, u11_1, u11_2, u11_3, u11_4, u11_5, u11_6, u11_7, u11_8, u11_12), (u11_9, u11_10, u11_11))
theorem aff (u11_0 : Bool) (u11_1 : Sq Int) (u11_2 : Sq qA) (u11_3 : Sq qC) (u11_4 : Sq SFan) (u11_5 : Sq qD) (u11_6 u11_7 : Sq Int) (u11_8 : Sq Bool) (u11_12 u11_9 : Int) (u11_10 : Bool) (u11_11 : Sq Int) : Rf u11_0 u11_1 u11_2 u11_3 u11_4 u11_5 u11_6 u11_7 u11_8 u11_12 u11_9 u11_10 u11_11 = fixO (fun v : Int × Bool × (Sq Int) => Iw u11_0 u11_1 u11_2 u11_3 u11_4 u11_5 u11_6 u11_7 u11_8 u11_12 v.1 v.2.1 v.2.2) (u11_9, u11_10, u11_11) := zG.val_eq (fun x => ((pU (aget x.tm 3), sqB dI (blkS x 0), sqD qA.dec (cellS x 1 0), sqD qC.dec (cellS x 1 1), sqD SFan.dec (cellS x 1 2), sqD qD.dec (cellS x 1 3), sqD dI (cellS x 65 0), sqD dI (cellS x 65 1), sqB dO (blkS x 1217), intA (aget x.tm 13)), (intA (aget x.tm 15), pU (aget x.tm 14), sqB dI (blkS x 961)))) (fun p => by kernel_rfl) ((u11_0, u11_1, u11_2, u11_3, u11_4, u11_5, u11_6, u11_7, u11_8, u11_12), (u11_9, u11_10, u11_11))
def JZ (u7_0 : Bool) (u7_1 : Sq Int) (u7_2 : Sq qA) (u7_3 : Sq qC) (u7_4 : Sq SFan) (u7_5 : Sq qD) (u7_6 u7_7 : Sq Int) (u7_8 : Sq Bool) (u7_9 : Int) (u7_10 : Sq Int) : DT (LR (Int × (Sq Int)) ((Sq Int)) (((Sq Int)) ⊕ ((Sq Int)))) :=
 .ite (decide (u7_9 < (200 : Int))) (
 .sum (Rf u7_0 u7_1 u7_2 u7_3 u7_4 u7_5 u7_6 u7_7 u7_8 u7_9 (0 : Int) false u7_10) (fun y0 =>
 .ite (!y0.1) (
 .leaf (.r (Sum.inl (y0.2)))) (
 .leaf (.next ((wr (u7_9 + (1 : Int))), y0.2)))) (fun y1 => .leaf (.r (Sum.inr (y1.2))))) (
 .leaf (.l u7_10))
def BA : LpM := ⟨Bool × (Sq Int) × (Sq qA) × (Sq qC) × (Sq SFan) × (Sq qD) × (Sq Int) × (Sq Int) × (Sq Bool), Int × (Sq Int), (Sq Int), ((Sq Int)) ⊕ ((Sq Int)), fun p => ⟨[(3, .bool p.1.1), (4, .ptr 1 0), (5, .ptr 65 0), (11, .own 961 0), (12, .own 1217 0), (13, .int .i64 p.2.1)], [(0, rowA 0 1 3 (eI .i64) p.1.2.1), (1, .var [sqA 2 qA.enc p.1.2.2.1, sqA 10 qC.enc p.1.2.2.2.1, sqA 4 SFan.enc p.1.2.2.2.2.1, sqA 3 qD.enc p.1.2.2.2.2.2.1]), (65, .var [sqA 1 (eI .i64) p.1.2.2.2.2.2.2.1, sqA 1 (eI .i64) p.1.2.2.2.2.2.2.2.1]), (129, .nilrow 0), (961, rowA 0 1 3 (eI .i64) p.2.2), (1217, rowA 0 1 4 eO p.1.2.2.2.2.2.2.2.2)], 1409⟩, fun f v => JZ f.1 f.2.1 f.2.2.1 f.2.2.2.1 f.2.2.2.2.1 f.2.2.2.2.2.1 f.2.2.2.2.2.2.1 f.2.2.2.2.2.2.2.1 f.2.2.2.2.2.2.2.2 v.1 v.2, false, (.exit 0), (fun x a => ⟨[(8, .undef), (9, .undef)], [(0, blkS x 0), (1, blkS x 1), (65, blkS x 65), (129, .nilrow 0), (961, rowA 0 1 3 (eI .i64) a), (1217, blkS x 1217)], 1409⟩), .ret, (fun x y => match y with | .inl a => ⟨[(8, .own 961 0), (9, .int .i64 (0 : Int))], [(0, blkS x 0), (1, blkS x 1), (65, blkS x 65), (129, .nilrow 0), (961, rowA 0 1 3 (eI .i64) a), (1217, blkS x 1217)], 1409⟩ | .inr a => ⟨[(8, .own 129 0), (9, .int .i64 (2 : Int))], [(0, blkS x 0), (1, blkS x 1), (65, blkS x 65), (129, .nilrow 0), (961, rowA 0 1 3 (eI .i64) a), (1217, blkS x 1217)], 1409⟩), c2, c2k⟩
def Uu (u7_0 : Bool) (u7_1 : Sq Int) (u7_2 : Sq qA) (u7_3 : Sq qC) (u7_4 : Sq SFan) (u7_5 : Sq qD) (u7_6 u7_7 : Sq Int) (u7_8 : Sq Bool) (u7_9 : Int) (u7_10 : Sq Int) : Option (((Sq Int)) ⊕ (((Sq Int)) ⊕ ((Sq Int)))) := BA.val ((u7_0, u7_1, u7_2, u7_3, u7_4, u7_5, u7_6, u7_7, u7_8), (u7_9, u7_10))
theorem afW (u7_0 : Bool) (u7_1 : Sq Int) (u7_2 : Sq qA) (u7_3 : Sq qC) (u7_4 : Sq SFan) (u7_5 : Sq qD) (u7_6 u7_7 : Sq Int) (u7_8 : Sq Bool) (u7_9 : Int) (u7_10 : Sq Int) : Uu u7_0 u7_1 u7_2 u7_3 u7_4 u7_5 u7_6 u7_7 u7_8 u7_9 u7_10 = fixO (fun v : Int × (Sq Int) => JZ u7_0 u7_1 u7_2 u7_3 u7_4 u7_5 u7_6 u7_7 u7_8 v.1 v.2) (u7_9, u7_10) := BA.val_eq (fun x => ((pU (aget x.tm 3), sqB dI (blkS x 0), sqD qA.dec (cellS x 1 0), sqD qC.dec (cellS x 1 1), sqD SFan.dec (cellS x 1 2), sqD qD.dec (cellS x 1 3), sqD dI (cellS x 65 0), sqD dI (cellS x 65 1), sqB dO (blkS x 1217)), (intA (aget x.tm 13), sqB dI (blkS x 961)))) (fun p => by kernel_rfl) ((u7_0, u7_1, u7_2, u7_3, u7_4, u7_5, u7_6, u7_7, u7_8), (u7_9, u7_10))
def Xz (a : SAir) (s : qz) (start : Sq Int) (up : Bool) : DT ((Sq Int) × Int) :=
 .bind (abq a s start) fun z2 =>
 .ite (z2 != (0 : Int)) (
 .leaf ((Sq.mk 0 (fun _ => (0 : Int))), z2)) (
 .ite (decide (start.n * 8 ≤ 140737488355328 ∧ start.n ≤ 1099511627776)) (
 .bind (Nz a.Mine) fun z3 =>
 .sum (Uu up start a.Mine.Places a.Mine.Roads a.Fans a.Doors s.Fans s.Doors z3 (0 : Int) start) (fun _ =>
 .leaf ((Sq.mk 0 (fun _ => (0 : Int))), (2 : Int))) (fun y2 => .sum (some y2) (fun y3 =>
 .leaf (y3, (0 : Int))) (fun _ => .leaf ((Sq.mk 0 (fun _ => (0 : Int))), (2 : Int))))) (
 .fail))
def yF : FnM := nfM (SAir × qz × (Sq Int) × Bool) ((Sq Int) × Int) (fun p => ([.agg (SAir.enc p.1), .agg (qz.enc p.2.1), .own 0 0, .bool p.2.2.2], [rowA 0 1 3 (eI .i64) p.2.2.1])) (fun p => Xz p.1 p.2.1 p.2.2.1 p.2.2.2) (fun r => .tup [.own 1 0, .int .i64 r.2]) (fun ins r => [dB ins 0, rowA 0 1 3 (eI .i64) r.1])
def Rb : Env := envM [(153, Ay.c), (115, wG.c), (154, Gj.c), (155, CV.c)] [(11, [3, 4, 5, 11, 12, 13, 14, 15], [3, 4, 5, 8, 9, 11, 12, 13, 14]), (7, [3, 4, 5, 11, 12, 13], [8, 9])] [(11, zG.c), (7, BA.c)] [(2000000, [.asrow 129 3 1 (fun _ => (eI .i64) (0 : Int))])] [(11, [0, 1, 65, 129, 961, 1217]), (7, [0, 1, 65, 129, 961, 1217]), (6000008, [129])] 1
def Xy : Env := { Rb with nt := 79 }
theorem Rh : aQ Xy (qd 11 Tryz.f113) zG.c := zG.tells 1665 (fun _ => by kernel_rfl) (fun _ _ _ _ => by kernel_rfl) (fun _ _ _ _ => by kernel_rfl) fun R f v N K => by kernel_rfl
theorem SC : aQ Xy (qd 7 Tryz.f113) BA.c := BA.tells 1409 (fun _ => by kernel_rfl) (fun _ _ _ _ => by kernel_rfl) (fun _ _ _ _ => by kernel_rfl) fun R f v N K => by kernel_rfl
theorem MH : aI Tryz.prog 113 yF.c := yF.tells Tryz.func113 (show ∀ p, arun Rb Tryz.f113 (yF.enc p).1 (yF.enc p).2 = _ from fun p => by kernel_rfl) (qg [qd 7 Tryz.f113, qd 11 Tryz.f113] (by kernel_rfl) ⟨lpT (by kernel_rfl) SC, ⟨lpT (by kernel_rfl) Rh, trivial⟩⟩) (.cons YF (.cons Gl (.cons ace (.cons aac .nil))))
def Vu (a : SAir) (s : qz) (start : Sq Int) (up : Bool) : Option ((Sq Int) × Int) := yF.val (a, s, start, up)
theorem ahM (a : SAir) (s : qz) (start : Sq Int) (up : Bool) : Vu a s start up = (Xz a s start up).get := yF.val_eq (fun x => (SAir.dec (aggL (gd x.1 0)), qz.dec (aggL (gd x.1 1)), sqB dI (dB x.2 0), pU (gd x.1 3))) (fun p => by kernel_rfl) (a, s, start, up)
def Zu (a : SAir) (s : qz) (start : Sq Int) : DT ((Sq Int) × Int) :=
 .bind (Vu a s start false) fun z0 =>
 .leaf (z0.1, z0.2)
def CW : FnM := nfM (SAir × qz × (Sq Int)) ((Sq Int) × Int) (fun p => ([.agg (SAir.enc p.1), .agg (qz.enc p.2.1), .own 0 0], [rowA 0 1 3 (eI .i64) p.2.2])) (fun p => Zu p.1 p.2.1 p.2.2) (fun r => .tup [.own 1 0, .int .i64 r.2]) (fun ins r => [dB ins 0, rowA 0 1 3 (eI .i64) r.1])
def acg : Env := envM [(113, yF.c)] [(2000113, [], [])] [] [] [] 1
theorem aad : aI Tryz.prog 78 CW.c := CW.tells Tryz.func78 (show ∀ p, arun acg Tryz.f78 (CW.enc p).1 (CW.enc p).2 = _ from fun p => by kernel_rfl) p8 (.cons MH .nil)
def YD (a : SAir) (s : qz) (start : Sq Int) : Option ((Sq Int) × Int) := CW.val (a, s, start)
theorem aik (a : SAir) (s : qz) (start : Sq Int) : YD a s start = (Zu a s start).get := CW.val_eq (fun x => (SAir.dec (aggL (gd x.1 0)), qz.dec (aggL (gd x.1 1)), sqB dI (dB x.2 0))) (fun p => by kernel_rfl) (a, s, start)
def Zv (a : SAir) (s : qz) (start : Sq Int) : DT ((Sq Int) × Int) :=
 .bind (Vu a s start true) fun z0 =>
 .leaf (z0.1, z0.2)
def CX : FnM := nfM (SAir × qz × (Sq Int)) ((Sq Int) × Int) (fun p => ([.agg (SAir.enc p.1), .agg (qz.enc p.2.1), .own 0 0], [rowA 0 1 3 (eI .i64) p.2.2])) (fun p => Zv p.1 p.2.1 p.2.2) (fun r => .tup [.own 1 0, .int .i64 r.2]) (fun ins r => [dB ins 0, rowA 0 1 3 (eI .i64) r.1])
def ach : Env := envM [(113, yF.c)] [(2000113, [], [])] [] [] [] 1
theorem aae : aI Tryz.prog 79 CX.c := CX.tells Tryz.func79 (show ∀ p, arun ach Tryz.f79 (CX.enc p).1 (CX.enc p).2 = _ from fun p => by kernel_rfl) p8 (.cons MH .nil)
def acS (a : SAir) (s : qz) (start : Sq Int) : Option ((Sq Int) × Int) := CX.val (a, s, start)
theorem ail (a : SAir) (s : qz) (start : Sq Int) : acS a s start = (Zv a s start).get := CX.val_eq (fun x => (SAir.dec (aggL (gd x.1 0)), qz.dec (aggL (gd x.1 1)), sqB dI (dB x.2 0))) (fun p => by kernel_rfl) (a, s, start)
def Xw (a : SAir) (s : qz) : DT (qL × Int) :=
 .ite (decide ((0 : Int) ≤ ((a.Mine.Places.n : Nat) : Int) ∧ ((a.Mine.Places.n : Nat) : Int) ≤ ((a.Mine.Places.n : Nat) : Int) ∧ ((a.Mine.Places.n : Nat) : Int) * ((8 : Nat) : Int) ≤ 140737488355328 ∧ ((a.Mine.Places.n : Nat) : Int) ≤ 1099511627776)) (
 .bind (YD a s (Sq.mk (Int.toNat ((a.Mine.Places.n : Nat) : Int)) (fun _ => (0 : Int)))) fun z0 =>
 .ite (z0.2 != (0 : Int)) (
 .leaf ((qL.mk (Sq.mk 0 (fun _ => (0 : Int))) (Sq.mk 0 (fun _ => (0 : Int)))), z0.2)) (
 .bind (acS a s z0.1) fun z1 =>
 .ite (z1.2 != (0 : Int)) (
 .leaf ((qL.mk (Sq.mk 0 (fun _ => (0 : Int))) (Sq.mk 0 (fun _ => (0 : Int)))), z1.2)) (
 .bind (YD a s z1.1) fun z2 =>
 .ite (z2.2 != (0 : Int)) (.leaf ((qL.mk (Sq.mk 0 (fun _ => (0 : Int))) (Sq.mk 0 (fun _ => (0 : Int)))), z2.2)) (.leaf ((qL.mk z2.1 z1.1), (0 : Int)))))) (
 .fail)
def Av : FnM := nfM (SAir × qz) (qL × Int) (fun p => ([.agg (SAir.enc p.1), .agg (qz.enc p.2)], [])) (fun p => Xw p.1 p.2) (fun r => .tup [.agg [.own 0 0, .own 1 0], .int .i64 r.2]) (fun _ r => [rowA 0 1 3 (eI .i64) r.1.Low, rowA 0 1 3 (eI .i64) r.1.High])
def abp : Env := envM [(78, CW.c), (79, CX.c)] [(2000078, [], []), (2000079, [], [])] [] [(2000000, [.asrow 1216 3 1 (fun _ => (eI .i64) (0 : Int)), .asrow 2176 3 1 (fun _ => (eI .i64) (0 : Int)), .asrow 3136 3 1 (fun _ => (eI .i64) (0 : Int)), .asrow 1217 3 1 (fun _ => (eI .i64) (0 : Int)), .asrow 2177 3 1 (fun _ => (eI .i64) (0 : Int)), .asrow 3137 3 1 (fun _ => (eI .i64) (0 : Int))])] [] 0
theorem YE : aI Tryz.prog 44 Av.c := Av.tells Tryz.func44 (show ∀ p, arun abp Tryz.f44 (Av.enc p).1 (Av.enc p).2 = _ from fun p => by kernel_rfl) p8 (.cons aad (.cons aae .nil))
def abo (a : SAir) (s : qz) : Option (qL × Int) := Av.val (a, s)
theorem ahK (a : SAir) (s : qz) : abo a s = (Xw a s).get := Av.val_eq (fun x => (SAir.dec (aggL (gd x.1 0)), qz.dec (aggL (gd x.1 1)))) (fun p => by kernel_rfl) (a, s)
end
end Go.Proofs.YtimkpfnbkclclaaGreat.Ab
