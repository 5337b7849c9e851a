/- A part of the proof, what is needed of it. -/
import Derived.Test.YtimkpfnbkclclaaGreatPj25
import Derived.Test.YtimkpfnbkclclaaGreatPj29
namespace Go.Proofs.YtimkpfnbkclclaaGreat.Ab
noncomputable section
open Go
attribute [local irreducible] arun
def Iy (u4_0 : Sq qA) (u4_2 u4_3 : Sq Int) (u4_4 : Int) : DT (LR ((Sq Int) × Int) ((Sq Int)) (Unit)) :=
 .ite (decide (u4_4 < ((u4_0.n : Nat) : Int))) (
 .ite (decide ((0 : Int) ≤ u4_4 ∧ u4_4 < ((u4_0.n : Nat) : Int))) (
 .ite (!(u4_0.f (Int.toNat u4_4)).Surface) (
 .bind (slices_Contains u4_2 u4_4) fun z0 =>
 .ite (!z0) (
 .ite (decide ((u4_3.n + 1) * 8 ≤ 140737488355328 ∧ (u4_3.n + 1) ≤ 1099511627776)) (
 .leaf (.next ((Sq.mk (u4_3.n + 1) (fun k0 => (cond (Nat.blt k0 u4_3.n) (u4_3.f k0) u4_4))), (wr (u4_4 + (1 : Int)))))) (
 .fail)) (
 .leaf (.next (u4_3, (wr (u4_4 + (1 : Int))))))) (
 .leaf (.next (u4_3, (wr (u4_4 + (1 : Int))))))) (
 .fail)) (
 .leaf (.l u4_3))
def zH : LpM := ⟨(Sq qA) × (Sq Int), (Sq Int) × Int, (Sq Int), Unit, fun p => ⟨[(3, .own 192 0), (4, .own 320 0), (10, sqA 2 qA.enc p.1.1), (11, .int .i64 ((p.1.1.n : Nat) : Int)), (12, .int .i64 p.2.2)], [(192, rowA 0 1 3 (eI .i64) p.1.2), (320, rowA 0 1 3 (eI .i64) p.2.1)], 640⟩, fun f v => Iy f.1 f.2 v.1 v.2, true, (.exit 0), (fun x a => ⟨[(4, .own 320 0)], [(192, blkS x 192), (320, rowA 0 1 3 (eI .i64) a)], 640⟩), .ret, (fun _ _ => ⟨[], [], 0⟩), c1, c1k⟩
def Rp (u4_0 : Sq qA) (u4_2 u4_3 : Sq Int) (u4_4 : Int) : Option (((Sq Int)) ⊕ (Unit)) := zH.val ((u4_0, u4_2), (u4_3, u4_4))
theorem afh (u4_0 : Sq qA) (u4_2 u4_3 : Sq Int) (u4_4 : Int) : Rp u4_0 u4_2 u4_3 u4_4 = fixO (fun v : (Sq Int) × Int => Iy u4_0 u4_2 v.1 v.2) (u4_3, u4_4) := zH.val_eq (fun x => ((sqD qA.dec (aget x.tm 10), sqB dI (blkS x 192)), (sqB dI (blkS x 320), intA (aget x.tm 12)))) (fun p => by kernel_rfl) ((u4_0, u4_2), (u4_3, u4_4))
def Uw (m : qI) : DT ((Sq Int)) :=
 .bind (Nu m) fun z1 =>
 .sum (Rp m.Places z1 (Sq.mk 0 (fun _ => (0 : Int))) (0 : Int)) (fun y0 =>
 .leaf y0) (fun _ => .fail)
def vE : FnM := nfM (qI) ((Sq Int)) (fun p => ([.agg (qI.enc p)], [])) (fun p => Uw p) (fun _ => .own 0 0) (fun _ r => [rowA 0 1 3 (eI .i64) r])
def OM : Env := envM [(72, wD.c), (73, rT.c)] [(4, [3, 4, 10, 11, 12], [4])] [(4, zH.c)] [(1000004, [.asrow 320 3 1 (fun _ => (eI .i64) (0 : Int))])] [(4, [192, 320])] 0
def acn : Env := { OM with nt := 32 }
theorem Rq : aQ acn (qd 4 Tryz.f140) zH.c := zH.tells 640 (fun _ => by kernel_rfl) (fun _ _ _ _ => by kernel_rfl) (fun _ _ _ _ => by kernel_rfl) fun R f v N K => by kernel_rfl
theorem Fj : aI Tryz.prog 140 vE.c := vE.tells Tryz.func140 (show ∀ p, arun OM Tryz.f140 (vE.enc p).1 (vE.enc p).2 = _ from fun p => by kernel_rfl) (qg [qd 4 Tryz.f140] (by kernel_rfl) ⟨lpT (by kernel_rfl) Rq, trivial⟩) (.cons Ga (.cons yJ .nil))
def G8 (m : qI) : Option ((Sq Int)) := vE.val m
theorem ag7 (m : qI) : G8 m = (Uw m).get := vE.val_eq (fun x => qI.dec (aggL (gd x.1 0))) (fun p => by kernel_rfl) m
def J3 (u6_0 u6_2 : Sq Int) (u6_3 : Int) : DT (LR (Int) (Unit) (Unit)) :=
 .ite (decide (u6_3 < ((u6_0.n : Nat) : Int))) (
 .ite (decide ((0 : Int) ≤ u6_3 ∧ u6_3 < ((u6_0.n : Nat) : Int))) (
 .ite ((u6_0.f (Int.toNat u6_3)) != (0 : Int)) (
 .bind (slices_Contains u6_2 u6_3) fun z0 =>
 .ite (!z0) (
 .leaf (.r ())) (
 .leaf (.next (wr (u6_3 + (1 : Int)))))) (
 .leaf (.next (wr (u6_3 + (1 : Int)))))) (
 .fail)) (
 .leaf (.l ()))
def BF : LpM := ⟨(Sq Int) × (Sq Int), Int, Unit, Unit, fun p => ⟨[(8, .own 1280 0), (27, sqA 1 (eI .i64) p.1.1), (28, .int .i64 ((p.1.1.n : Nat) : Int)), (29, .int .i64 p.2)], [(1280, rowA 0 1 3 (eI .i64) p.1.2)], 1600⟩, fun f v => J3 f.1 f.2 v, false, (.exit 0), (fun x _ => ⟨[(6, .undef)], [(1280, blkS x 1280)], 1600⟩), .ret, (fun x _ => ⟨[(6, .int .i64 (12 : Int))], [(1280, blkS x 1280)], 1600⟩), c1, c1k⟩
def Ll (u6_0 u6_2 : Sq Int) (u6_3 : Int) : Option ((Unit) ⊕ (Unit)) := BF.val ((u6_0, u6_2), u6_3)
theorem afY (u6_0 u6_2 : Sq Int) (u6_3 : Int) : Ll u6_0 u6_2 u6_3 = fixO (fun v : Int => J3 u6_0 u6_2 v) u6_3 := BF.val_eq (fun x => ((sqD dI (aget x.tm 27), sqB dI (blkS x 1280)), intA (aget x.tm 29))) (fun p => by kernel_rfl) ((u6_0, u6_2), u6_3)
def XF (a : SAir) (s : qz) (start : Sq Int) : DT (Int) :=
 .bind (Nk a s (qL.mk start start)) fun z1 =>
 .ite (z1 != (0 : Int)) (
 .ite (z1 != (12 : Int)) (
 .leaf z1) (
 .bind (G8 a.Mine) fun z2 =>
 .sum (Ll start z2 (0 : Int)) (fun _ =>
 .leaf (0 : Int)) (fun _ => .leaf (12 : Int)))) (
 .bind (G8 a.Mine) fun z3 =>
 .sum (Ll start z3 (0 : Int)) (fun _ =>
 .leaf (0 : Int)) (fun _ => .leaf (12 : Int)))
def yH : FnM := flM (SAir × qz × (Sq Int)) (Int) (fun p => ([.agg (SAir.enc p.1), .agg (qz.enc p.2.1), sqA 1 (eI .i64) p.2.2], [])) (fun p => XF p.1 p.2.1 p.2.2) (fun r => .int .i64 r) (fun _ => rfl)
def Ro : Env := envM [(71, vJ.c), (140, vE.c), (73, rT.c)] [(6, [8, 27, 28, 29], [6])] [(6, BF.c)] [] [(6, [1280])] 0
def adq : Env := { Ro with nt := 43 }
theorem SF : aQ adq (qd 6 Tryz.f138) BF.c := BF.tells 1600 (fun _ => by kernel_rfl) (fun _ _ _ _ => by kernel_rfl) (fun _ _ _ _ => by kernel_rfl) fun R f v N K => by kernel_rfl
theorem MO : aI Tryz.prog 138 yH.c := yH.tells Tryz.func138 (show ∀ p, arun Ro Tryz.f138 (yH.enc p).1 (yH.enc p).2 = _ from fun p => by kernel_rfl) (qg [qd 6 Tryz.f138] (by kernel_rfl) ⟨lpT (by kernel_rfl) SF, trivial⟩) (.cons Jr (.cons Fj (.cons yJ .nil)))
def Vy (a : SAir) (s : qz) (start : Sq Int) : Option (Int) := yH.val (a, s, start)
theorem ahP (a : SAir) (s : qz) (start : Sq Int) : Vy a s start = (XF a s start).get := yH.val_eq (fun x => (SAir.dec (aggL (gd x.1 0)), qz.dec (aggL (gd x.1 1)), sqD dI (gd x.1 2))) (fun p => by kernel_rfl) (a, s, start)
def Uy (s : Sq Int) : DT ((Sq Int)) :=
 .ite (decide (0 < s.n)) (
 .ite (decide ((0 + s.n) * 8 ≤ 140737488355328 ∧ (0 + s.n) ≤ 1099511627776)) (.leaf (Sq.mk (0 + s.n) (fun k0 => (s.f k0)))) (.fail)) (
 .fail)
def wL : FnM := nfM ((Sq Int)) ((Sq Int)) (fun p => ([.own 0 0], [rowA 0 1 3 (eI .i64) p])) (fun p => Uy p) (fun _ => .own 1 0) (fun ins r => [dB ins 0, rowA 0 1 3 (eI .i64) r])
def aai : Env := envM [] [] [] [] [] 1
theorem K7 : aI Tryz.prog 139 wL.c := wL.tells Tryz.func139 (show ∀ p, arun aai Tryz.f139 (wL.enc p).1 (wL.enc p).2 = _ from fun p => by kernel_rfl) p8 .nil
def slices_Clone (s : Sq Int) : Option ((Sq Int)) := wL.val s
theorem ag9 (s : Sq Int) : slices_Clone s = (Uy s).get := wL.val_eq (fun x => sqB dI (dB x.2 0)) (fun p => by kernel_rfl) s
def EG (n : sw) (place : Int) : DT (Int × Bool) :=
 .bind (N8 n.air_ n.setting_ n.pressures_ place) fun z0 =>
 .leaf (z0.1, z0.2)
def rE : FnM := flM (sw × Int) (Int × Bool) (fun p => ([.agg (sw.enc p.1), .int .i64 p.2], [])) (fun p => EG p.1 p.2) (fun r => .tup [.int .i64 r.1, .bool r.2]) (fun _ => rfl)
def Ki : Env := envM [(142, uG.c)] [] [] [] [] 0
theorem IX : aI Tryz.prog 103 rE.c := rE.tells Tryz.func103 (show ∀ p, arun Ki Tryz.f103 (rE.enc p).1 (rE.enc p).2 = _ from fun p => by kernel_rfl) p8 (.cons O3 .nil)
def FW (n : sw) (place : Int) : Option (Int × Bool) := rE.val (n, place)
theorem aco (n : sw) (place : Int) : FW n place = (EG n place).get := rE.val_eq (fun x => (sw.dec (aggL (gd x.1 0)), intA (gd x.1 1))) (fun p => by kernel_rfl) (n, place)
def yY (u2_2 : Sq Int) (u2_3 : Sq qA) (u2_4 : Sq qC) (u2_5 : Sq SFan) (u2_6 : Sq qD) (u2_7 u2_8 u2_1 : Sq Int) (u2_9 : Bool) (u2_10 : Int) : DT (LR ((Sq Int) × Bool × Int) (Bool × (Sq Int)) ((Sq Int))) :=
 .ite (decide (u2_10 < ((u2_2.n : Nat) : Int))) (
 .ite (decide ((0 : Int) ≤ u2_10 ∧ u2_10 < ((u2_2.n : Nat) : Int))) (
 .bind (FW (sw.mk (SAir.mk (qI.mk u2_3 u2_4) u2_5 u2_6) (qz.mk u2_7 u2_8) u2_1) (u2_2.f (Int.toNat u2_10))) fun z0 =>
 .ite (!z0.2) (
 .leaf (.r u2_1)) (
 .ite u2_9 (
 .ite (decide ((0 : Int) ≤ (u2_2.f (Int.toNat u2_10)) ∧ (u2_2.f (Int.toNat u2_10)) < ((u2_1.n : Nat) : Int))) (
 .leaf (.next ((Sq.mk u2_1.n (fun k0 => (cond (Nat.beq k0 (Int.toNat (u2_2.f (Int.toNat u2_10)))) z0.1 (u2_1.f k0)))), true, (wr (u2_10 + (1 : Int)))))) (
 .fail)) (
 .ite (decide ((0 : Int) ≤ (u2_2.f (Int.toNat u2_10)) ∧ (u2_2.f (Int.toNat u2_10)) < ((u2_1.n : Nat) : Int))) (
 .ite (decide ((0 : Int) ≤ (u2_2.f (Int.toNat u2_10)) ∧ (u2_2.f (Int.toNat u2_10)) < ((u2_1.n : Nat) : Int))) (
 .leaf (.next ((Sq.mk u2_1.n (fun k1 => (cond (Nat.beq k1 (Int.toNat (u2_2.f (Int.toNat u2_10)))) z0.1 (u2_1.f k1)))), (z0.1 != (u2_1.f (Int.toNat (u2_2.f (Int.toNat u2_10))))), (wr (u2_10 + (1 : Int)))))) (
 .fail)) (
 .fail)))) (
 .fail)) (
 .leaf (.l (u2_9, u2_1)))
def rP : LpM := ⟨(Sq Int) × (Sq qA) × (Sq qC) × (Sq SFan) × (Sq qD) × (Sq Int) × (Sq Int), (Sq Int) × Bool × Int, Bool × (Sq Int), (Sq Int), fun p => ⟨[(2, .fn 103 []), (3, .ptr 2 0), (6, .bool p.2.2.1), (12, .own 1 0), (13, .int .i64 ((p.1.1.n : Nat) : Int)), (14, .int .i64 p.2.2.2)], [(0, rowA 0 1 3 (eI .i64) p.2.1), (1, rowA 0 1 3 (eI .i64) p.1.1), (2, .var [sqA 2 qA.enc p.1.2.1, sqA 10 qC.enc p.1.2.2.1, sqA 4 SFan.enc p.1.2.2.2.1, sqA 3 qD.enc p.1.2.2.2.2.1, sqA 1 (eI .i64) p.1.2.2.2.2.2.1, sqA 1 (eI .i64) p.1.2.2.2.2.2.2, .own 0 0])], 386⟩, fun f v => yY f.1 f.2.1 f.2.2.1 f.2.2.2.1 f.2.2.2.2.1 f.2.2.2.2.2.1 f.2.2.2.2.2.2 v.1 v.2.1 v.2.2, false, (.exit 0), (fun x a => ⟨[(6, .bool a.1), (7, .undef)], [(0, rowA 0 1 3 (eI .i64) a.2), (1, blkS x 1), (2, blkS x 2)], 386⟩), .ret, (fun x a => ⟨[(6, .bool false), (7, .bool false)], [(0, rowA 0 1 3 (eI .i64) a), (1, blkS x 1), (2, blkS x 2)], 386⟩), c1, c1k⟩
def C9 (u2_2 : Sq Int) (u2_3 : Sq qA) (u2_4 : Sq qC) (u2_5 : Sq SFan) (u2_6 : Sq qD) (u2_7 u2_8 u2_1 : Sq Int) (u2_9 : Bool) (u2_10 : Int) : Option ((Bool × (Sq Int)) ⊕ ((Sq Int))) := rP.val ((u2_2, u2_3, u2_4, u2_5, u2_6, u2_7, u2_8), (u2_1, u2_9, u2_10))
theorem Zz (u2_2 : Sq Int) (u2_3 : Sq qA) (u2_4 : Sq qC) (u2_5 : Sq SFan) (u2_6 : Sq qD) (u2_7 u2_8 u2_1 : Sq Int) (u2_9 : Bool) (u2_10 : Int) : C9 u2_2 u2_3 u2_4 u2_5 u2_6 u2_7 u2_8 u2_1 u2_9 u2_10 = fixO (fun v : (Sq Int) × Bool × Int => yY u2_2 u2_3 u2_4 u2_5 u2_6 u2_7 u2_8 v.1 v.2.1 v.2.2) (u2_1, u2_9, u2_10) := rP.val_eq (fun x => ((sqB dI (blkS x 1), sqD qA.dec (cellS x 2 0), sqD qC.dec (cellS x 2 1), sqD SFan.dec (cellS x 2 2), sqD qD.dec (cellS x 2 3), sqD dI (cellS x 2 4), sqD dI (cellS x 2 5)), (sqB dI (blkS x 0), pU (aget x.tm 6), intA (aget x.tm 14)))) (fun p => by kernel_rfl) ((u2_2, u2_3, u2_4, u2_5, u2_6, u2_7, u2_8), (u2_1, u2_9, u2_10))
def Dv (n : sw) (places : Sq Int) : DT (Bool × Bool × (Sq Int)) :=
 .sum (C9 places n.air_.Mine.Places n.air_.Mine.Roads n.air_.Fans n.air_.Doors n.setting_.Fans n.setting_.Doors n.pressures_ false (0 : Int)) (fun y0 =>
 .leaf (y0.1, true, y0.2)) (fun y1 => .leaf (false, false, y1))
def qV : FnM := nfM (sw × (Sq Int)) (Bool × Bool × (Sq Int)) (fun p => ([.agg [sqA 2 qA.enc p.1.air_.Mine.Places, sqA 10 qC.enc p.1.air_.Mine.Roads, sqA 4 SFan.enc p.1.air_.Fans, sqA 3 qD.enc p.1.air_.Doors, sqA 1 (eI .i64) p.1.setting_.Fans, sqA 1 (eI .i64) p.1.setting_.Doors, .own 0 0], .own 1 0, .fn 103 []], [rowA 0 1 3 (eI .i64) p.1.pressures_, rowA 0 1 3 (eI .i64) p.2])) (fun p => Dv p.1 p.2) (fun r => .tup [.bool r.1, .bool r.2.1]) (fun ins r => [rowA 0 1 3 (eI .i64) r.2.2, dB ins 1])
def BP : Env := envM [(103, rE.c)] [(2, [2, 3, 6, 12, 13, 14], [6, 7])] [(2, rP.c)] [] [(2, [0, 1, 2])] 2
def Kj : Env := { BP with nt := 44 }
theorem Fp : aQ Kj (qd 2 Tryz.f141) rP.c := rP.tells 386 (fun _ => by kernel_rfl) (fun _ _ _ _ => by kernel_rfl) (fun _ _ _ _ => by kernel_rfl) fun R f v N K => by kernel_rfl
theorem He : aI Tryz.prog 141 qV.c := qV.tells Tryz.func141 (show ∀ p, arun BP Tryz.f141 (qV.enc p).1 (qV.enc p).2 = _ from fun p => by kernel_rfl) (qg [qd 2 Tryz.f141] (by kernel_rfl) ⟨lpT (by kernel_rfl) Fp, trivial⟩) (.cons IX .nil)
def EH (n : sw) (places : Sq Int) : Option (Bool × Bool × (Sq Int)) := qV.val (n, places)
theorem abA (n : sw) (places : Sq Int) : EH n places = (Dv n places).get := qV.val_eq (fun x => (⟨⟨⟨sqD qA.dec (gd (aggL (gd x.1 0)) 0), sqD qC.dec (gd (aggL (gd x.1 0)) 1)⟩, sqD SFan.dec (gd (aggL (gd x.1 0)) 2), sqD qD.dec (gd (aggL (gd x.1 0)) 3)⟩, ⟨sqD dI (gd (aggL (gd x.1 0)) 4), sqD dI (gd (aggL (gd x.1 0)) 5)⟩, sqB dI (dB x.2 0)⟩, sqB dI (dB x.2 1))) (fun p => by kernel_rfl) (n, places)
def Ea (_u6_0 u6_2 : Sq Int) (u6_3 : Sq qA) (u6_4 : Sq qC) (u6_5 : Sq SFan) (u6_6 : Sq qD) (u6_7 u6_8 u6_1 : Sq Int) (u6_9 : Int) : DT (LR ((Sq Int) × Int) ((Sq Int)) (((Sq Int)) ⊕ ((Sq Int)))) :=
 .ite (decide (u6_9 < (200 : Int))) (
 .bind (EH (sw.mk (SAir.mk (qI.mk u6_3 u6_4) u6_5 u6_6) (qz.mk u6_7 u6_8) u6_1) u6_2) fun z0 =>
 .ite (!z0.2.1) (
 .leaf (.r (Sum.inl (z0.2.2)))) (
 .ite (!z0.1) (
 .leaf (.r (Sum.inr (z0.2.2)))) (
 .leaf (.next (z0.2.2, (wr (u6_9 + (1 : Int)))))))) (
 .leaf (.l u6_1))
def uV : LpM := ⟨(Sq Int) × (Sq Int) × (Sq qA) × (Sq qC) × (Sq SFan) × (Sq qD) × (Sq Int) × (Sq Int), (Sq Int) × Int, (Sq Int), ((Sq Int)) ⊕ ((Sq Int)), fun p => ⟨[(3, .fn 103 []), (11, .ptr 1409 0), (12, .own 1345 0), (30, .int .i64 p.2.2)], [(0, rowA 0 1 3 (eI .i64) p.1.1), (129, .nilrow 0), (1089, rowA 0 1 3 (eI .i64) p.2.1), (1345, rowA 0 1 3 (eI .i64) p.1.2.1), (1409, .var [sqA 2 qA.enc p.1.2.2.1, sqA 10 qC.enc p.1.2.2.2.1, sqA 4 SFan.enc p.1.2.2.2.2.1, sqA 3 qD.enc p.1.2.2.2.2.2.1, sqA 1 (eI .i64) p.1.2.2.2.2.2.2.1, sqA 1 (eI .i64) p.1.2.2.2.2.2.2.2, .own 1089 0])], 1665⟩, fun f v => Ea f.1 f.2.1 f.2.2.1 f.2.2.2.1 f.2.2.2.2.1 f.2.2.2.2.2.1 f.2.2.2.2.2.2.1 f.2.2.2.2.2.2.2 v.1 v.2, false, (.exit 0), (fun x a => ⟨[(8, .undef), (9, .undef)], [(0, blkS x 0), (129, .nilrow 0), (1089, rowA 0 1 3 (eI .i64) a), (1345, blkS x 1345), (1409, blkS x 1409)], 1665⟩), .ret, (fun x y => match y with | .inl a => ⟨[(8, .own 129 0), (9, .int .i64 (2 : Int))], [(0, blkS x 0), (129, .nilrow 0), (1089, rowA 0 1 3 (eI .i64) a), (1345, blkS x 1345), (1409, blkS x 1409)], 1665⟩ | .inr a => ⟨[(8, .own 1089 0), (9, .int .i64 (0 : Int))], [(0, blkS x 0), (129, .nilrow 0), (1089, rowA 0 1 3 (eI .i64) a), (1345, blkS x 1345), (1409, blkS x 1409)], 1665⟩), c2, c2k⟩
def Iz (u6_0 u6_2 : Sq Int) (u6_3 : Sq qA) (u6_4 : Sq qC) (u6_5 : Sq SFan) (u6_6 : Sq qD) (u6_7 u6_8 u6_1 : Sq Int) (u6_9 : Int) : Option (((Sq Int)) ⊕ (((Sq Int)) ⊕ ((Sq Int)))) := uV.val ((u6_0, u6_2, u6_3, u6_4, u6_5, u6_6, u6_7, u6_8), (u6_1, u6_9))
theorem adr (u6_0 u6_2 : Sq Int) (u6_3 : Sq qA) (u6_4 : Sq qC) (u6_5 : Sq SFan) (u6_6 : Sq qD) (u6_7 u6_8 u6_1 : Sq Int) (u6_9 : Int) : Iz u6_0 u6_2 u6_3 u6_4 u6_5 u6_6 u6_7 u6_8 u6_1 u6_9 = fixO (fun v : (Sq Int) × Int => Ea u6_0 u6_2 u6_3 u6_4 u6_5 u6_6 u6_7 u6_8 v.1 v.2) (u6_1, u6_9) := uV.val_eq (fun x => ((sqB dI (blkS x 0), sqB dI (blkS x 1345), sqD qA.dec (cellS x 1409 0), sqD qC.dec (cellS x 1409 1), sqD SFan.dec (cellS x 1409 2), sqD qD.dec (cellS x 1409 3), sqD dI (cellS x 1409 4), sqD dI (cellS x 1409 5)), (sqB dI (blkS x 1089), intA (aget x.tm 30)))) (fun p => by kernel_rfl) ((u6_0, u6_2, u6_3, u6_4, u6_5, u6_6, u6_7, u6_8), (u6_1, u6_9))
def J5 (a : SAir) (s : qz) (start : Sq Int) : DT ((Sq Int) × Int) :=
 .bind (Vy a s start) fun z1 =>
 .ite (z1 != (0 : Int)) (
 .leaf ((Sq.mk 0 (fun _ => (0 : Int))), z1)) (
 .bind (slices_Clone start) fun z2 =>
 .bind (G8 a.Mine) fun z3 =>
 .sum (Iz start z3 a.Mine.Places a.Mine.Roads a.Fans a.Doors s.Fans s.Doors z2 (0 : Int)) (fun _ =>
 .leaf ((Sq.mk 0 (fun _ => (0 : Int))), (2 : Int))) (fun y0 => .sum (some y0) (fun _ =>
 .leaf ((Sq.mk 0 (fun _ => (0 : Int))), (2 : Int))) (fun y1 => .leaf (y1, (0 : Int)))))
def uj : FnM := nfM (SAir × qz × (Sq Int)) ((Sq Int) × Int) (fun p => ([.agg (SAir.enc p.1), .agg (qz.enc p.2.1), .own 0 0, .fn 103 []], [rowA 0 1 3 (eI .i64) p.2.2])) (fun p => J5 p.1 p.2.1 p.2.2) (fun r => .tup [.own 1 0, .int .i64 r.2]) (fun ins r => [dB ins 0, rowA 0 1 3 (eI .i64) r.1])
def Hf : Env := envM [(138, yH.c), (139, wL.c), (140, vE.c), (141, qV.c)] [(6, [3, 11, 12, 30], [8, 9]), (2000139, [], []), (2000141, [2], [])] [(6, uV.c)] [(2000000, [.asrow 129 3 1 (fun _ => (eI .i64) (0 : Int))])] [(6, [0, 129, 1089, 1345, 1409]), (6000008, [129])] 1
def Vz : Env := { Hf with nt := 46 }
theorem Kk : aQ Vz (qd 6 Tryz.f102) uV.c := uV.tells 1665 (fun _ => by kernel_rfl) (fun _ _ _ _ => by kernel_rfl) (fun _ _ _ _ => by kernel_rfl) fun R f v N K => by kernel_rfl
theorem NG : aI Tryz.prog 102 uj.c := uj.tells Tryz.func102 (show ∀ p, arun Hf Tryz.f102 (uj.enc p).1 (uj.enc p).2 = _ from fun p => by kernel_rfl) (qg [qd 6 Tryz.f102] (by kernel_rfl) ⟨lpT (by kernel_rfl) Kk, trivial⟩) (.cons MO (.cons K7 (.cons Fj (.cons He .nil))))
def MR (a : SAir) (s : qz) (start : Sq Int) : Option ((Sq Int) × Int) := uj.val (a, s, start)
theorem aer (a : SAir) (s : qz) (start : Sq Int) : MR a s start = (J5 a s start).get := uj.val_eq (fun x => (SAir.dec (aggL (gd x.1 0)), qz.dec (aggL (gd x.1 1)), sqB dI (dB x.2 0))) (fun p => by kernel_rfl) (a, s, start)
def Zx (a : SAir) (s : qz) (start : Sq Int) : DT ((Sq Int) × Int) :=
 .bind (MR a s start) fun z0 =>
 .leaf (z0.1, z0.2)
def CZ : FnM := nfM (SAir × qz × (Sq Int)) ((Sq Int) × Int) (fun p => ([.agg (SAir.enc p.1), .agg (qz.enc p.2.1), .own 0 0], [rowA 0 1 3 (eI .i64) p.2.2])) (fun p => Zx p.1 p.2.1 p.2.2) (fun r => .tup [.own 1 0, .int .i64 r.2]) (fun ins r => [dB ins 0, rowA 0 1 3 (eI .i64) r.1])
def aci : Env := envM [(102, uj.c)] [(2000102, [], [])] [] [] [] 1
theorem aaf : aI Tryz.prog 68 CZ.c := CZ.tells Tryz.func68 (show ∀ p, arun aci Tryz.f68 (CZ.enc p).1 (CZ.enc p).2 = _ from fun p => by kernel_rfl) p8 (.cons NG .nil)
def YH (a : SAir) (s : qz) (start : Sq Int) : Option ((Sq Int) × Int) := CZ.val (a, s, start)
theorem ain (a : SAir) (s : qz) (start : Sq Int) : YH a s start = (Zx a s start).get := CZ.val_eq (fun x => (SAir.dec (aggL (gd x.1 0)), qz.dec (aggL (gd x.1 1)), sqB dI (dB x.2 0))) (fun p => by kernel_rfl) (a, s, start)
def G9 (n : sw) (place : Int) : DT (Int × Bool) :=
 .bind (VY n.air_ n.setting_ n.pressures_ place) fun z0 =>
 .leaf (z0.1, z0.2)
def sS : FnM := flM (sw × Int) (Int × Bool) (fun p => ([.agg (sw.enc p.1), .int .i64 p.2], [])) (fun p => G9 p.1 p.2) (fun r => .tup [.int .i64 r.1, .bool r.2]) (fun _ => rfl)
def ND : Env := envM [(143, wS.c)] [] [] [] [] 0
theorem Lm : aI Tryz.prog 104 sS.c := sS.tells Tryz.func104 (show ∀ p, arun ND Tryz.f104 (sS.enc p).1 (sS.enc p).2 = _ from fun p => by kernel_rfl) p8 (.cons U0 .nil)
def J4 (n : sw) (place : Int) : Option (Int × Bool) := sS.val (n, place)
theorem adB (n : sw) (place : Int) : J4 n place = (G9 n place).get := sS.val_eq (fun x => (sw.dec (aggL (gd x.1 0)), intA (gd x.1 1))) (fun p => by kernel_rfl) (n, place)
def zT (u2_2 : Sq Int) (u2_3 : Sq qA) (u2_4 : Sq qC) (u2_5 : Sq SFan) (u2_6 : Sq qD) (u2_7 u2_8 u2_1 : Sq Int) (u2_9 : Bool) (u2_10 : Int) : DT (LR ((Sq Int) × Bool × Int) (Bool × (Sq Int)) ((Sq Int))) :=
 .ite (decide (u2_10 < ((u2_2.n : Nat) : Int))) (
 .ite (decide ((0 : Int) ≤ u2_10 ∧ u2_10 < ((u2_2.n : Nat) : Int))) (
 .bind (J4 (sw.mk (SAir.mk (qI.mk u2_3 u2_4) u2_5 u2_6) (qz.mk u2_7 u2_8) u2_1) (u2_2.f (Int.toNat u2_10))) fun z0 =>
 .ite (!z0.2) (
 .leaf (.r u2_1)) (
 .ite u2_9 (
 .ite (decide ((0 : Int) ≤ (u2_2.f (Int.toNat u2_10)) ∧ (u2_2.f (Int.toNat u2_10)) < ((u2_1.n : Nat) : Int))) (
 .leaf (.next ((Sq.mk u2_1.n (fun k0 => (cond (Nat.beq k0 (Int.toNat (u2_2.f (Int.toNat u2_10)))) z0.1 (u2_1.f k0)))), true, (wr (u2_10 + (1 : Int)))))) (
 .fail)) (
 .ite (decide ((0 : Int) ≤ (u2_2.f (Int.toNat u2_10)) ∧ (u2_2.f (Int.toNat u2_10)) < ((u2_1.n : Nat) : Int))) (
 .ite (decide ((0 : Int) ≤ (u2_2.f (Int.toNat u2_10)) ∧ (u2_2.f (Int.toNat u2_10)) < ((u2_1.n : Nat) : Int))) (
 .leaf (.next ((Sq.mk u2_1.n (fun k1 => (cond (Nat.beq k1 (Int.toNat (u2_2.f (Int.toNat u2_10)))) z0.1 (u2_1.f k1)))), (z0.1 != (u2_1.f (Int.toNat (u2_2.f (Int.toNat u2_10))))), (wr (u2_10 + (1 : Int)))))) (
 .fail)) (
 .fail)))) (
 .fail)) (
 .leaf (.l (u2_9, u2_1)))
def sU : LpM := ⟨(Sq Int) × (Sq qA) × (Sq qC) × (Sq SFan) × (Sq qD) × (Sq Int) × (Sq Int), (Sq Int) × Bool × Int, Bool × (Sq Int), (Sq Int), fun p => ⟨[(2, .fn 104 []), (3, .ptr 2 0), (6, .bool p.2.2.1), (12, .own 1 0), (13, .int .i64 ((p.1.1.n : Nat) : Int)), (14, .int .i64 p.2.2.2)], [(0, rowA 0 1 3 (eI .i64) p.2.1), (1, rowA 0 1 3 (eI .i64) p.1.1), (2, .var [sqA 2 qA.enc p.1.2.1, sqA 10 qC.enc p.1.2.2.1, sqA 4 SFan.enc p.1.2.2.2.1, sqA 3 qD.enc p.1.2.2.2.2.1, sqA 1 (eI .i64) p.1.2.2.2.2.2.1, sqA 1 (eI .i64) p.1.2.2.2.2.2.2, .own 0 0])], 386⟩, fun f v => zT f.1 f.2.1 f.2.2.1 f.2.2.2.1 f.2.2.2.2.1 f.2.2.2.2.2.1 f.2.2.2.2.2.2 v.1 v.2.1 v.2.2, false, (.exit 0), (fun x a => ⟨[(6, .bool a.1), (7, .undef)], [(0, rowA 0 1 3 (eI .i64) a.2), (1, blkS x 1), (2, blkS x 2)], 386⟩), .ret, (fun x a => ⟨[(6, .bool false), (7, .bool false)], [(0, rowA 0 1 3 (eI .i64) a), (1, blkS x 1), (2, blkS x 2)], 386⟩), c1, c1k⟩
def D9 (u2_2 : Sq Int) (u2_3 : Sq qA) (u2_4 : Sq qC) (u2_5 : Sq SFan) (u2_6 : Sq qD) (u2_7 u2_8 u2_1 : Sq Int) (u2_9 : Bool) (u2_10 : Int) : Option ((Bool × (Sq Int)) ⊕ ((Sq Int))) := sU.val ((u2_2, u2_3, u2_4, u2_5, u2_6, u2_7, u2_8), (u2_1, u2_9, u2_10))
theorem aap (u2_2 : Sq Int) (u2_3 : Sq qA) (u2_4 : Sq qC) (u2_5 : Sq SFan) (u2_6 : Sq qD) (u2_7 u2_8 u2_1 : Sq Int) (u2_9 : Bool) (u2_10 : Int) : D9 u2_2 u2_3 u2_4 u2_5 u2_6 u2_7 u2_8 u2_1 u2_9 u2_10 = fixO (fun v : (Sq Int) × Bool × Int => zT u2_2 u2_3 u2_4 u2_5 u2_6 u2_7 u2_8 v.1 v.2.1 v.2.2) (u2_1, u2_9, u2_10) := sU.val_eq (fun x => ((sqB dI (blkS x 1), sqD qA.dec (cellS x 2 0), sqD qC.dec (cellS x 2 1), sqD SFan.dec (cellS x 2 2), sqD qD.dec (cellS x 2 3), sqD dI (cellS x 2 4), sqD dI (cellS x 2 5)), (sqB dI (blkS x 0), pU (aget x.tm 6), intA (aget x.tm 14)))) (fun p => by kernel_rfl) ((u2_2, u2_3, u2_4, u2_5, u2_6, u2_7, u2_8), (u2_1, u2_9, u2_10))
def EI (n : sw) (places : Sq Int) : DT (Bool × Bool × (Sq Int)) :=
 .sum (D9 places n.air_.Mine.Places n.air_.Mine.Roads n.air_.Fans n.air_.Doors n.setting_.Fans n.setting_.Doors n.pressures_ false (0 : Int)) (fun y0 =>
 .leaf (y0.1, true, y0.2)) (fun y1 => .leaf (false, false, y1))
def rF : FnM := nfM (sw × (Sq Int)) (Bool × Bool × (Sq Int)) (fun p => ([.agg [sqA 2 qA.enc p.1.air_.Mine.Places, sqA 10 qC.enc p.1.air_.Mine.Roads, sqA 4 SFan.enc p.1.air_.Fans, sqA 3 qD.enc p.1.air_.Doors, sqA 1 (eI .i64) p.1.setting_.Fans, sqA 1 (eI .i64) p.1.setting_.Doors, .own 0 0], .own 1 0, .fn 104 []], [rowA 0 1 3 (eI .i64) p.1.pressures_, rowA 0 1 3 (eI .i64) p.2])) (fun p => EI p.1 p.2) (fun r => .tup [.bool r.1, .bool r.2.1]) (fun ins r => [rowA 0 1 3 (eI .i64) r.2.2, dB ins 1])
def Dx : Env := envM [(104, sS.c)] [(2, [2, 3, 6, 12, 13, 14], [6, 7])] [(2, sU.c)] [] [(2, [0, 1, 2])] 2
def MQ : Env := { Dx with nt := 44 }
theorem Gm : aQ MQ (qd 2 Tryz.f141) sU.c := sU.tells 386 (fun _ => by kernel_rfl) (fun _ _ _ _ => by kernel_rfl) (fun _ _ _ _ => by kernel_rfl) fun R f v N K => by kernel_rfl
theorem IY : aI Tryz.prog 141 rF.c := rF.tells Tryz.func141 (show ∀ p, arun Dx Tryz.f141 (rF.enc p).1 (rF.enc p).2 = _ from fun p => by kernel_rfl) (qg [qd 2 Tryz.f141] (by kernel_rfl) ⟨lpT (by kernel_rfl) Gm, trivial⟩) (.cons Lm .nil)
def FX (n : sw) (places : Sq Int) : Option (Bool × Bool × (Sq Int)) := rF.val (n, places)
theorem acp (n : sw) (places : Sq Int) : FX n places = (EI n places).get := rF.val_eq (fun x => (⟨⟨⟨sqD qA.dec (gd (aggL (gd x.1 0)) 0), sqD qC.dec (gd (aggL (gd x.1 0)) 1)⟩, sqD SFan.dec (gd (aggL (gd x.1 0)) 2), sqD qD.dec (gd (aggL (gd x.1 0)) 3)⟩, ⟨sqD dI (gd (aggL (gd x.1 0)) 4), sqD dI (gd (aggL (gd x.1 0)) 5)⟩, sqB dI (dB x.2 0)⟩, sqB dI (dB x.2 1))) (fun p => by kernel_rfl) (n, places)
def Fq (_u6_0 u6_2 : Sq Int) (u6_3 : Sq qA) (u6_4 : Sq qC) (u6_5 : Sq SFan) (u6_6 : Sq qD) (u6_7 u6_8 u6_1 : Sq Int) (u6_9 : Int) : DT (LR ((Sq Int) × Int) ((Sq Int)) (((Sq Int)) ⊕ ((Sq Int)))) :=
 .ite (decide (u6_9 < (200 : Int))) (
 .bind (FX (sw.mk (SAir.mk (qI.mk u6_3 u6_4) u6_5 u6_6) (qz.mk u6_7 u6_8) u6_1) u6_2) fun z0 =>
 .ite (!z0.2.1) (
 .leaf (.r (Sum.inl (z0.2.2)))) (
 .ite (!z0.1) (
 .leaf (.r (Sum.inr (z0.2.2)))) (
 .leaf (.next (z0.2.2, (wr (u6_9 + (1 : Int)))))))) (
 .leaf (.l u6_1))
def wB : LpM := ⟨(Sq Int) × (Sq Int) × (Sq qA) × (Sq qC) × (Sq SFan) × (Sq qD) × (Sq Int) × (Sq Int), (Sq Int) × Int, (Sq Int), ((Sq Int)) ⊕ ((Sq Int)), fun p => ⟨[(3, .fn 104 []), (11, .ptr 1409 0), (12, .own 1345 0), (30, .int .i64 p.2.2)], [(0, rowA 0 1 3 (eI .i64) p.1.1), (129, .nilrow 0), (1089, rowA 0 1 3 (eI .i64) p.2.1), (1345, rowA 0 1 3 (eI .i64) p.1.2.1), (1409, .var [sqA 2 qA.enc p.1.2.2.1, sqA 10 qC.enc p.1.2.2.2.1, sqA 4 SFan.enc p.1.2.2.2.2.1, sqA 3 qD.enc p.1.2.2.2.2.2.1, sqA 1 (eI .i64) p.1.2.2.2.2.2.2.1, sqA 1 (eI .i64) p.1.2.2.2.2.2.2.2, .own 1089 0])], 1665⟩, fun f v => Fq f.1 f.2.1 f.2.2.1 f.2.2.2.1 f.2.2.2.2.1 f.2.2.2.2.2.1 f.2.2.2.2.2.2.1 f.2.2.2.2.2.2.2 v.1 v.2, false, (.exit 0), (fun x a => ⟨[(8, .undef), (9, .undef)], [(0, blkS x 0), (129, .nilrow 0), (1089, rowA 0 1 3 (eI .i64) a), (1345, blkS x 1345), (1409, blkS x 1409)], 1665⟩), .ret, (fun x y => match y with | .inl a => ⟨[(8, .own 129 0), (9, .int .i64 (2 : Int))], [(0, blkS x 0), (129, .nilrow 0), (1089, rowA 0 1 3 (eI .i64) a), (1345, blkS x 1345), (1409, blkS x 1409)], 1665⟩ | .inr a => ⟨[(8, .own 1089 0), (9, .int .i64 (0 : Int))], [(0, blkS x 0), (129, .nilrow 0), (1089, rowA 0 1 3 (eI .i64) a), (1345, blkS x 1345), (1409, blkS x 1409)], 1665⟩), c2, c2k⟩
def K5 (u6_0 u6_2 : Sq Int) (u6_3 : Sq qA) (u6_4 : Sq qC) (u6_5 : Sq SFan) (u6_6 : Sq qD) (u6_7 u6_8 u6_1 : Sq Int) (u6_9 : Int) : Option (((Sq Int)) ⊕ (((Sq Int)) ⊕ ((Sq Int)))) := wB.val ((u6_0, u6_2, u6_3, u6_4, u6_5, u6_6, u6_7, u6_8), (u6_1, u6_9))
theorem ad8 (u6_0 u6_2 : Sq Int) (u6_3 : Sq qA) (u6_4 : Sq qC) (u6_5 : Sq SFan) (u6_6 : Sq qD) (u6_7 u6_8 u6_1 : Sq Int) (u6_9 : Int) : K5 u6_0 u6_2 u6_3 u6_4 u6_5 u6_6 u6_7 u6_8 u6_1 u6_9 = fixO (fun v : (Sq Int) × Int => Fq u6_0 u6_2 u6_3 u6_4 u6_5 u6_6 u6_7 u6_8 v.1 v.2) (u6_1, u6_9) := wB.val_eq (fun x => ((sqB dI (blkS x 0), sqB dI (blkS x 1345), sqD qA.dec (cellS x 1409 0), sqD qC.dec (cellS x 1409 1), sqD SFan.dec (cellS x 1409 2), sqD qD.dec (cellS x 1409 3), sqD dI (cellS x 1409 4), sqD dI (cellS x 1409 5)), (sqB dI (blkS x 1089), intA (aget x.tm 30)))) (fun p => by kernel_rfl) ((u6_0, u6_2, u6_3, u6_4, u6_5, u6_6, u6_7, u6_8), (u6_1, u6_9))
def MU (a : SAir) (s : qz) (start : Sq Int) : DT ((Sq Int) × Int) :=
 .bind (Vy a s start) fun z1 =>
 .ite (z1 != (0 : Int)) (
 .leaf ((Sq.mk 0 (fun _ => (0 : Int))), z1)) (
 .bind (slices_Clone start) fun z2 =>
 .bind (G8 a.Mine) fun z3 =>
 .sum (K5 start z3 a.Mine.Places a.Mine.Roads a.Fans a.Doors s.Fans s.Doors z2 (0 : Int)) (fun _ =>
 .leaf ((Sq.mk 0 (fun _ => (0 : Int))), (2 : Int))) (fun y0 => .sum (some y0) (fun _ =>
 .leaf ((Sq.mk 0 (fun _ => (0 : Int))), (2 : Int))) (fun y1 => .leaf (y1, (0 : Int)))))
def vo : FnM := nfM (SAir × qz × (Sq Int)) ((Sq Int) × Int) (fun p => ([.agg (SAir.enc p.1), .agg (qz.enc p.2.1), .own 0 0, .fn 104 []], [rowA 0 1 3 (eI .i64) p.2.2])) (fun p => MU p.1 p.2.1 p.2.2) (fun r => .tup [.own 1 0, .int .i64 r.2]) (fun ins r => [dB ins 0, rowA 0 1 3 (eI .i64) r.1])
def J6 : Env := envM [(138, yH.c), (139, wL.c), (140, vE.c), (141, rF.c)] [(6, [3, 11, 12, 30], [8, 9]), (2000139, [], []), (2000141, [2], [])] [(6, wB.c)] [(2000000, [.asrow 129 3 1 (fun _ => (eI .i64) (0 : Int))])] [(6, [0, 129, 1089, 1345, 1409]), (6000008, [129])] 1
def YJ : Env := { J6 with nt := 46 }
theorem MS : aQ YJ (qd 6 Tryz.f102) wB.c := wB.tells 1665 (fun _ => by kernel_rfl) (fun _ _ _ _ => by kernel_rfl) (fun _ _ _ _ => by kernel_rfl) fun R f v N K => by kernel_rfl
theorem Rt : aI Tryz.prog 102 vo.c := vo.tells Tryz.func102 (show ∀ p, arun J6 Tryz.f102 (vo.enc p).1 (vo.enc p).2 = _ from fun p => by kernel_rfl) (qg [qd 6 Tryz.f102] (by kernel_rfl) ⟨lpT (by kernel_rfl) MS, trivial⟩) (.cons MO (.cons K7 (.cons Fj (.cons IY .nil))))
def Rs (a : SAir) (s : qz) (start : Sq Int) : Option ((Sq Int) × Int) := vo.val (a, s, start)
theorem afi (a : SAir) (s : qz) (start : Sq Int) : Rs a s start = (MU a s start).get := vo.val_eq (fun x => (SAir.dec (aggL (gd x.1 0)), qz.dec (aggL (gd x.1 1)), sqB dI (dB x.2 0))) (fun p => by kernel_rfl) (a, s, start)
def Zy (a : SAir) (s : qz) (start : Sq Int) : DT ((Sq Int) × Int) :=
 .bind (Rs a s start) fun z0 =>
 .leaf (z0.1, z0.2)
def C8 : FnM := nfM (SAir × qz × (Sq Int)) ((Sq Int) × Int) (fun p => ([.agg (SAir.enc p.1), .agg (qz.enc p.2.1), .own 0 0], [rowA 0 1 3 (eI .i64) p.2.2])) (fun p => Zy p.1 p.2.1 p.2.2) (fun r => .tup [.own 1 0, .int .i64 r.2]) (fun ins r => [dB ins 0, rowA 0 1 3 (eI .i64) r.1])
def acj : Env := envM [(102, vo.c)] [(2000102, [], [])] [] [] [] 1
theorem aag : aI Tryz.prog 69 C8.c := C8.tells Tryz.func69 (show ∀ p, arun acj Tryz.f69 (C8.enc p).1 (C8.enc p).2 = _ from fun p => by kernel_rfl) p8 (.cons Rt .nil)
def acT (a : SAir) (s : qz) (start : Sq Int) : Option ((Sq Int) × Int) := C8.val (a, s, start)
theorem aio (a : SAir) (s : qz) (start : Sq Int) : acT a s start = (Zy a s start).get := C8.val_eq (fun x => (SAir.dec (aggL (gd x.1 0)), qz.dec (aggL (gd x.1 1)), sqB dI (dB x.2 0))) (fun p => by kernel_rfl) (a, s, start)
def XE (a : SAir) (s : qz) : DT (qL × Int) :=
 .ite (decide ((0 : Int) ≤ ((a.Mine.Places.n : Nat) : Int) ∧ ((a.Mine.Places.n : Nat) : Int) ≤ ((a.Mine.Places.n : Nat) : Int) ∧ ((a.Mine.Places.n : Nat) : Int) * ((8 : Nat) : Int) ≤ 140737488355328 ∧ ((a.Mine.Places.n : Nat) : Int) ≤ 1099511627776)) (
 .bind (YH a s (Sq.mk (Int.toNat ((a.Mine.Places.n : Nat) : Int)) (fun _ => (0 : Int)))) fun z0 =>
 .ite (z0.2 != (0 : Int)) (
 .leaf ((qL.mk (Sq.mk 0 (fun _ => (0 : Int))) (Sq.mk 0 (fun _ => (0 : Int)))), z0.2)) (
 .bind (acT a s z0.1) fun z1 =>
 .ite (z1.2 != (0 : Int)) (
 .leaf ((qL.mk (Sq.mk 0 (fun _ => (0 : Int))) (Sq.mk 0 (fun _ => (0 : Int)))), z1.2)) (
 .bind (YH a s z1.1) fun z2 =>
 .ite (z2.2 != (0 : Int)) (.leaf ((qL.mk (Sq.mk 0 (fun _ => (0 : Int))) (Sq.mk 0 (fun _ => (0 : Int)))), z2.2)) (.leaf ((qL.mk z2.1 z1.1), (0 : Int)))))) (
 .fail)
def AA : FnM := nfM (SAir × qz) (qL × Int) (fun p => ([.agg (SAir.enc p.1), .agg (qz.enc p.2)], [])) (fun p => XE p.1 p.2) (fun r => .tup [.agg [.own 0 0, .own 1 0], .int .i64 r.2]) (fun _ r => [rowA 0 1 3 (eI .i64) r.1.Low, rowA 0 1 3 (eI .i64) r.1.High])
def abz : Env := envM [(68, CZ.c), (69, C8.c)] [(2000068, [], []), (2000069, [], [])] [] [(2000000, [.asrow 1216 3 1 (fun _ => (eI .i64) (0 : Int)), .asrow 2176 3 1 (fun _ => (eI .i64) (0 : Int)), .asrow 3136 3 1 (fun _ => (eI .i64) (0 : Int)), .asrow 1217 3 1 (fun _ => (eI .i64) (0 : Int)), .asrow 2177 3 1 (fun _ => (eI .i64) (0 : Int)), .asrow 3137 3 1 (fun _ => (eI .i64) (0 : Int))])] [] 0
theorem YI : aI Tryz.prog 39 AA.c := AA.tells Tryz.func39 (show ∀ p, arun abz Tryz.f39 (AA.enc p).1 (AA.enc p).2 = _ from fun p => by kernel_rfl) p8 (.cons aaf (.cons aag .nil))
def aby (a : SAir) (s : qz) : Option (qL × Int) := AA.val (a, s)
theorem ahO (a : SAir) (s : qz) : aby a s = (XE a s).get := AA.val_eq (fun x => (SAir.dec (aggL (gd x.1 0)), qz.dec (aggL (gd x.1 1)))) (fun p => by kernel_rfl) (a, s)
end
end Go.Proofs.YtimkpfnbkclclaaGreat.Ab
