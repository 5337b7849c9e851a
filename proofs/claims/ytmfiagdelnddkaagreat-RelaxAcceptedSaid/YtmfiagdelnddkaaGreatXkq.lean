/- Mirrors of code, stage 12. -/
import Derived.Test.YtmfiagdelnddkaaGreatXd
import Derived.Test.YtmfiagdelnddkaaGreatXkg
import Derived.Test.YtmfiagdelnddkaaGreatTK
namespace Go.Proofs.YtmfiagdelnddkaaGreat.Ab
noncomputable section
open Go
attribute [local irreducible] arun
def lW (u4_0 : Sq ay) (u4_2 u4_3 : Sq Int) (u4_4 : Int) : DT (LR ((Sq Int) × Int) ((Sq Int)) (Unit)) :=
 .ite (decide (u4_4 < ((u4_0.n : Nat) : Int))) (
 .ite (decide ((0 : Int) ≤ u4_4 ∧ u4_4 < ((u4_0.n : Nat) : Int))) (
 .ite (!(u4_0.f (Int.toNat u4_4)).Surface) (
 .bind (slices_Contains u4_2 u4_4) fun z0 =>
 .ite (!z0) (
 .ite (decide ((u4_3.n + 1) * 8 ≤ 140737488355328 ∧ (u4_3.n + 1) ≤ 1099511627776)) (
 .leaf (.next ((Sq.mk (u4_3.n + 1) (fun k0 => (cond (Nat.blt k0 u4_3.n) (u4_3.f k0) u4_4))), (wr (u4_4 + (1 : Int)))))) (
 .fail)) (
 .leaf (.next (u4_3, (wr (u4_4 + (1 : Int))))))) (
 .leaf (.next (u4_3, (wr (u4_4 + (1 : Int))))))) (
 .fail)) (
 .leaf (.l u4_3))
def qR : LpM := ⟨(Sq ay) × (Sq Int), (Sq Int) × Int, (Sq Int), Unit, fun p => ⟨[(3, .own 192 0), (4, .own 320 0), (10, sqA 2 ay.enc p.1.1), (11, .int .i64 ((p.1.1.n : Nat) : Int)), (12, .int .i64 p.2.2)], [(192, rowA 0 1 3 (eI .i64) p.1.2), (320, rowA 0 1 3 (eI .i64) p.2.1)], 640⟩, fun f v => lW f.1 f.2 v.1 v.2, true, (.exit 0), (fun x a => ⟨[(4, .own 320 0)], [(192, blkS x 192), (320, rowA 0 1 3 (eI .i64) a)], 640⟩), .ret, (fun _ _ => ⟨[], [], 0⟩), c1, c1k⟩
def Nz (u4_0 : Sq ay) (u4_2 u4_3 : Sq Int) (u4_4 : Int) : Option (((Sq Int)) ⊕ (Unit)) := qR.val ((u4_0, u4_2), (u4_3, u4_4))
theorem TQ (u4_0 : Sq ay) (u4_2 u4_3 : Sq Int) (u4_4 : Int) : Nz u4_0 u4_2 u4_3 u4_4 = fixO (fun v : (Sq Int) × Int => lW u4_0 u4_2 v.1 v.2) (u4_3, u4_4) := qR.val_eq (fun x => ((sqD ay.dec (aget x.tm 10), sqB dI (blkS x 192)), (sqB dI (blkS x 320), intA (aget x.tm 12)))) (fun p => by kernel_rfl) ((u4_0, u4_2), (u4_3, u4_4))
def Gu (m : aL) : DT ((Sq Int)) :=
 .bind (DU m) fun z1 =>
 .sum (Nz m.Places z1 (Sq.mk 0 (fun _ => (0 : Int))) (0 : Int)) (fun y0 =>
 .leaf y0) (fun _ => .fail)
def gM : FnM := nfM (aL) ((Sq Int)) (fun p => ([.agg (aL.enc p)], [])) (fun p => Gu p) (fun _ => .own 0 0) (fun _ r => [rowA 0 1 3 (eI .i64) r])
def KQ : Env := envM [(66, oP.c), (67, fK.c)] [(4, [3, 4, 10, 11, 12], [4])] [(4, qR.c)] [(1000004, [.asrow 320 3 1 (fun _ => (eI .i64) (0 : Int))])] [(4, [192, 320])] 0
def aaB : Env := { KQ with nt := 32 }
theorem NA : aG aaB (aH 4 Tryz.f53) qR.c := qR.tells 640 (fun _ => by kernel_rfl) (fun _ _ _ _ => by kernel_rfl) (fun _ _ _ _ => by kernel_rfl) fun R f v N K => by kernel_rfl
theorem pK : aN Tryz.prog 53 gM.c := gM.tells Tryz.func53 (show ∀ p, arun KQ Tryz.f53 (gM.enc p).1 (gM.enc p).2 = _ from fun p => by kernel_rfl) (bf [aH 4 Tryz.f53] (by kernel_rfl) ⟨lpT (by kernel_rfl) NA, trivial⟩) (.cons Ht (.cons wO .nil))
def kK (m : aL) : Option ((Sq Int)) := gM.val m
theorem Zc (m : aL) : kK m = (Gu m).get := gM.val_eq (fun x => aL.dec (aggL (gd x.1 0))) (fun p => by kernel_rfl) m
def nL (u6_0 u6_2 : Sq Int) (u6_3 : Int) : DT (LR (Int) (Unit) (Unit)) :=
 .ite (decide (u6_3 < ((u6_0.n : Nat) : Int))) (
 .ite (decide ((0 : Int) ≤ u6_3 ∧ u6_3 < ((u6_0.n : Nat) : Int))) (
 .ite ((u6_0.f (Int.toNat u6_3)) != (0 : Int)) (
 .bind (slices_Contains u6_2 u6_3) fun z0 =>
 .ite (!z0) (
 .leaf (.r ())) (
 .leaf (.next (wr (u6_3 + (1 : Int)))))) (
 .leaf (.next (wr (u6_3 + (1 : Int)))))) (
 .fail)) (
 .leaf (.l ()))
def uG : LpM := ⟨(Sq Int) × (Sq Int), Int, Unit, Unit, fun p => ⟨[(8, .own 1280 0), (27, sqA 1 (eI .i64) p.1.1), (28, .int .i64 ((p.1.1.n : Nat) : Int)), (29, .int .i64 p.2)], [(1280, rowA 0 1 3 (eI .i64) p.1.2)], 1600⟩, fun f v => nL f.1 f.2 v, false, (.exit 0), (fun x _ => ⟨[(6, .undef)], [(1280, blkS x 1280)], 1600⟩), .ret, (fun x _ => ⟨[(6, .int .i64 (12 : Int))], [(1280, blkS x 1280)], 1600⟩), c1, c1k⟩
def qo (u6_0 u6_2 : Sq Int) (u6_3 : Int) : Option ((Unit) ⊕ (Unit)) := uG.val ((u6_0, u6_2), u6_3)
theorem VA (u6_0 u6_2 : Sq Int) (u6_3 : Int) : qo u6_0 u6_2 u6_3 = fixO (fun v : Int => nL u6_0 u6_2 v) u6_3 := uG.val_eq (fun x => ((sqD dI (aget x.tm 27), sqB dI (blkS x 1280)), intA (aget x.tm 29))) (fun p => by kernel_rfl) ((u6_0, u6_2), u6_3)
def J3 (a : SAir) (s : au) (start : Sq Int) : DT (Int) :=
 .bind (CB a s (bM.mk start start)) fun z1 =>
 .ite (z1 != (0 : Int)) (
 .ite (z1 != (12 : Int)) (
 .leaf z1) (
 .bind (kK a.Mine) fun z2 =>
 .sum (qo start z2 (0 : Int)) (fun _ =>
 .leaf (0 : Int)) (fun _ => .leaf (12 : Int)))) (
 .bind (kK a.Mine) fun z3 =>
 .sum (qo start z3 (0 : Int)) (fun _ =>
 .leaf (0 : Int)) (fun _ => .leaf (12 : Int)))
def j6 : FnM := flM (SAir × au × (Sq Int)) (Int) (fun p => ([.agg (SAir.enc p.1), .agg (au.enc p.2.1), sqA 1 (eI .i64) p.2.2], [])) (fun p => J3 p.1 p.2.1 p.2.2) (fun r => .int .i64 r) (fun _ => rfl)
def Ny : Env := envM [(22, kr.c), (53, gM.c), (67, fK.c)] [(6, [8, 27, 28, 29], [6])] [(6, uG.c)] [] [(6, [1280])] 0
def acj : Env := { Ny with nt := 43 }
theorem O8 : aG acj (aH 6 Tryz.f51) uG.c := uG.tells 1600 (fun _ => by kernel_rfl) (fun _ _ _ _ => by kernel_rfl) (fun _ _ _ _ => by kernel_rfl) fun R f v N K => by kernel_rfl
theorem xq : aN Tryz.prog 51 j6.c := j6.tells Tryz.func51 (show ∀ p, arun Ny Tryz.f51 (j6.enc p).1 (j6.enc p).2 = _ from fun p => by kernel_rfl) (bf [aH 6 Tryz.f51] (by kernel_rfl) ⟨lpT (by kernel_rfl) O8, trivial⟩) (.cons Dz (.cons pK (.cons wO .nil)))
def Bd (a : SAir) (s : au) (start : Sq Int) : Option (Int) := j6.val (a, s, start)
theorem aaA (a : SAir) (s : au) (start : Sq Int) : Bd a s start = (J3 a s start).get := j6.val_eq (fun x => (SAir.dec (aggL (gd x.1 0)), au.dec (aggL (gd x.1 1)), sqD dI (gd x.1 2))) (fun p => by kernel_rfl) (a, s, start)
def Gy (s : Sq Int) : DT ((Sq Int)) :=
 .ite (decide (0 < s.n)) (
 .ite (decide ((0 + s.n) * 8 ≤ 140737488355328 ∧ (0 + s.n) ≤ 1099511627776)) (.leaf (Sq.mk (0 + s.n) (fun k0 => (s.f k0)))) (.fail)) (
 .fail)
def mF : FnM := nfM ((Sq Int)) ((Sq Int)) (fun p => ([.own 0 0], [rowA 0 1 3 (eI .i64) p])) (fun p => Gy p) (fun _ => .own 1 0) (fun ins r => [dB ins 0, rowA 0 1 3 (eI .i64) r])
def XE : Env := envM [] [] [] [] [] 1
theorem FC : aN Tryz.prog 52 mF.c := mF.tells Tryz.func52 (show ∀ p, arun XE Tryz.f52 (mF.enc p).1 (mF.enc p).2 = _ from fun p => by kernel_rfl) aP .nil
def slices_Clone (s : Sq Int) : Option ((Sq Int)) := mF.val s
theorem Zj (s : Sq Int) : slices_Clone s = (Gy s).get := mF.val_eq (fun x => sqB dI (dB x.2 0)) (fun p => by kernel_rfl) s
def qU (n : bg) (place : Int) : DT (Int × Bool) :=
 .bind (BF n.air_ n.setting_ n.pressures_ place) fun z0 =>
 .leaf (z0.1, z0.2)
def bY : FnM := flM (bg × Int) (Int × Bool) (fun p => ([.agg (bg.enc p.1), .int .i64 p.2], [])) (fun p => qU p.1 p.2) (fun r => .tup [.int .i64 r.1, .bool r.2]) (fun _ => rfl)
def EN : Env := envM [(60, iU.c)] [] [] [] [] 0
theorem CS : aN Tryz.prog 37 bY.c := bY.tells Tryz.func37 (show ∀ p, arun EN Tryz.f37 (bY.enc p).1 (bY.enc p).2 = _ from fun p => by kernel_rfl) aP (.cons KW .nil)
def nW (n : bg) (place : Int) : Option (Int × Bool) := bY.val (n, place)
theorem Gv (n : bg) (place : Int) : nW n place = (qU n place).get := bY.val_eq (fun x => (bg.dec (aggL (gd x.1 0)), intA (gd x.1 1))) (fun p => by kernel_rfl) (n, place)
def bR (u2_2 : Sq Int) (u2_3 : Sq ay) (u2_4 : Sq aB) (u2_5 : Sq SFan) (u2_6 : Sq aC) (u2_7 u2_8 u2_1 : Sq Int) (u2_9 : Bool) (u2_10 : Int) : DT (LR ((Sq Int) × Bool × Int) (Bool × (Sq Int)) ((Sq Int))) :=
 .ite (decide (u2_10 < ((u2_2.n : Nat) : Int))) (
 .ite (decide ((0 : Int) ≤ u2_10 ∧ u2_10 < ((u2_2.n : Nat) : Int))) (
 .bind (nW (bg.mk (SAir.mk (aL.mk u2_3 u2_4) u2_5 u2_6) (au.mk u2_7 u2_8) u2_1) (u2_2.f (Int.toNat u2_10))) fun z0 =>
 .ite (!z0.2) (
 .leaf (.r u2_1)) (
 .ite u2_9 (
 .ite (decide ((0 : Int) ≤ (u2_2.f (Int.toNat u2_10)) ∧ (u2_2.f (Int.toNat u2_10)) < ((u2_1.n : Nat) : Int))) (
 .leaf (.next ((Sq.mk u2_1.n (fun k0 => (cond (Nat.beq k0 (Int.toNat (u2_2.f (Int.toNat u2_10)))) z0.1 (u2_1.f k0)))), true, (wr (u2_10 + (1 : Int)))))) (
 .fail)) (
 .ite (decide ((0 : Int) ≤ (u2_2.f (Int.toNat u2_10)) ∧ (u2_2.f (Int.toNat u2_10)) < ((u2_1.n : Nat) : Int))) (
 .ite (decide ((0 : Int) ≤ (u2_2.f (Int.toNat u2_10)) ∧ (u2_2.f (Int.toNat u2_10)) < ((u2_1.n : Nat) : Int))) (
 .leaf (.next ((Sq.mk u2_1.n (fun k1 => (cond (Nat.beq k1 (Int.toNat (u2_2.f (Int.toNat u2_10)))) z0.1 (u2_1.f k1)))), (z0.1 != (u2_1.f (Int.toNat (u2_2.f (Int.toNat u2_10))))), (wr (u2_10 + (1 : Int)))))) (
 .fail)) (
 .fail)))) (
 .fail)) (
 .leaf (.l (u2_9, u2_1)))
def dP : LpM := ⟨(Sq Int) × (Sq ay) × (Sq aB) × (Sq SFan) × (Sq aC) × (Sq Int) × (Sq Int), (Sq Int) × Bool × Int, Bool × (Sq Int), (Sq Int), fun p => ⟨[(2, .fn 37 []), (3, .ptr 2 0), (6, .bool p.2.2.1), (12, .own 1 0), (13, .int .i64 ((p.1.1.n : Nat) : Int)), (14, .int .i64 p.2.2.2)], [(0, rowA 0 1 3 (eI .i64) p.2.1), (1, rowA 0 1 3 (eI .i64) p.1.1), (2, .var [sqA 2 ay.enc p.1.2.1, sqA 10 aB.enc p.1.2.2.1, sqA 4 SFan.enc p.1.2.2.2.1, sqA 3 aC.enc p.1.2.2.2.2.1, sqA 1 (eI .i64) p.1.2.2.2.2.2.1, sqA 1 (eI .i64) p.1.2.2.2.2.2.2, .own 0 0])], 386⟩, fun f v => bR f.1 f.2.1 f.2.2.1 f.2.2.2.1 f.2.2.2.2.1 f.2.2.2.2.2.1 f.2.2.2.2.2.2 v.1 v.2.1 v.2.2, false, (.exit 0), (fun x a => ⟨[(6, .bool a.1), (7, .undef)], [(0, rowA 0 1 3 (eI .i64) a.2), (1, blkS x 1), (2, blkS x 2)], 386⟩), .ret, (fun x a => ⟨[(6, .bool false), (7, .bool false)], [(0, rowA 0 1 3 (eI .i64) a), (1, blkS x 1), (2, blkS x 2)], 386⟩), c1, c1k⟩
def cu (u2_2 : Sq Int) (u2_3 : Sq ay) (u2_4 : Sq aB) (u2_5 : Sq SFan) (u2_6 : Sq aC) (u2_7 u2_8 u2_1 : Sq Int) (u2_9 : Bool) (u2_10 : Int) : Option ((Bool × (Sq Int)) ⊕ ((Sq Int))) := dP.val ((u2_2, u2_3, u2_4, u2_5, u2_6, u2_7, u2_8), (u2_1, u2_9, u2_10))
theorem gH (u2_2 : Sq Int) (u2_3 : Sq ay) (u2_4 : Sq aB) (u2_5 : Sq SFan) (u2_6 : Sq aC) (u2_7 u2_8 u2_1 : Sq Int) (u2_9 : Bool) (u2_10 : Int) : cu u2_2 u2_3 u2_4 u2_5 u2_6 u2_7 u2_8 u2_1 u2_9 u2_10 = fixO (fun v : (Sq Int) × Bool × Int => bR u2_2 u2_3 u2_4 u2_5 u2_6 u2_7 u2_8 v.1 v.2.1 v.2.2) (u2_1, u2_9, u2_10) := dP.val_eq (fun x => ((sqB dI (blkS x 1), sqD ay.dec (cellS x 2 0), sqD aB.dec (cellS x 2 1), sqD SFan.dec (cellS x 2 2), sqD aC.dec (cellS x 2 3), sqD dI (cellS x 2 4), sqD dI (cellS x 2 5)), (sqB dI (blkS x 0), iR (aget x.tm 6), intA (aget x.tm 14)))) (fun p => by kernel_rfl) ((u2_2, u2_3, u2_4, u2_5, u2_6, u2_7, u2_8), (u2_1, u2_9, u2_10))
def og (n : bg) (places : Sq Int) : DT (Bool × Bool × (Sq Int)) :=
 .sum (cu places n.air_.Mine.Places n.air_.Mine.Roads n.air_.Fans n.air_.Doors n.setting_.Fans n.setting_.Doors n.pressures_ false (0 : Int)) (fun y0 =>
 .leaf (y0.1, true, y0.2)) (fun y1 => .leaf (false, false, y1))
def bB : FnM := nfM (bg × (Sq Int)) (Bool × Bool × (Sq Int)) (fun p => ([.agg [sqA 2 ay.enc p.1.air_.Mine.Places, sqA 10 aB.enc p.1.air_.Mine.Roads, sqA 4 SFan.enc p.1.air_.Fans, sqA 3 aC.enc p.1.air_.Doors, sqA 1 (eI .i64) p.1.setting_.Fans, sqA 1 (eI .i64) p.1.setting_.Doors, .own 0 0], .own 1 0, .fn 37 []], [rowA 0 1 3 (eI .i64) p.1.pressures_, rowA 0 1 3 (eI .i64) p.2])) (fun p => og p.1 p.2) (fun r => .tup [.bool r.1, .bool r.2.1]) (fun ins r => [rowA 0 1 3 (eI .i64) r.2.2, dB ins 1])
def vF : Env := envM [(37, bY.c)] [(2, [2, 3, 6, 12, 13, 14], [6, 7])] [(2, dP.c)] [] [(2, [0, 1, 2])] 2
def EO : Env := { vF with nt := 44 }
theorem zU : aG EO (aH 2 Tryz.f54) dP.c := dP.tells 386 (fun _ => by kernel_rfl) (fun _ _ _ _ => by kernel_rfl) (fun _ _ _ _ => by kernel_rfl) fun R f v N K => by kernel_rfl
theorem rJ : aN Tryz.prog 54 bB.c := bB.tells Tryz.func54 (show ∀ p, arun vF Tryz.f54 (bB.enc p).1 (bB.enc p).2 = _ from fun p => by kernel_rfl) (bf [aH 2 Tryz.f54] (by kernel_rfl) ⟨lpT (by kernel_rfl) zU, trivial⟩) (.cons CS .nil)
def bZ (n : bg) (places : Sq Int) : Option (Bool × Bool × (Sq Int)) := bB.val (n, places)
theorem Eo (n : bg) (places : Sq Int) : bZ n places = (og n places).get := bB.val_eq (fun x => (⟨⟨⟨sqD ay.dec (gd (aggL (gd x.1 0)) 0), sqD aB.dec (gd (aggL (gd x.1 0)) 1)⟩, sqD SFan.dec (gd (aggL (gd x.1 0)) 2), sqD aC.dec (gd (aggL (gd x.1 0)) 3)⟩, ⟨sqD dI (gd (aggL (gd x.1 0)) 4), sqD dI (gd (aggL (gd x.1 0)) 5)⟩, sqB dI (dB x.2 0)⟩, sqB dI (dB x.2 1))) (fun p => by kernel_rfl) (n, places)
def bN (_u6_0 u6_2 : Sq Int) (u6_3 : Sq ay) (u6_4 : Sq aB) (u6_5 : Sq SFan) (u6_6 : Sq aC) (u6_7 u6_8 u6_1 : Sq Int) (u6_9 : Int) : DT (LR ((Sq Int) × Int) ((Sq Int)) (((Sq Int)) ⊕ ((Sq Int)))) :=
 .ite (decide (u6_9 < (200 : Int))) (
 .bind (bZ (bg.mk (SAir.mk (aL.mk u6_3 u6_4) u6_5 u6_6) (au.mk u6_7 u6_8) u6_1) u6_2) fun z0 =>
 .ite (!z0.2.1) (
 .leaf (.r (Sum.inl (z0.2.2)))) (
 .ite (!z0.1) (
 .leaf (.r (Sum.inr (z0.2.2)))) (
 .leaf (.next (z0.2.2, (wr (u6_9 + (1 : Int)))))))) (
 .leaf (.l u6_1))
def jI : LpM := ⟨(Sq Int) × (Sq Int) × (Sq ay) × (Sq aB) × (Sq SFan) × (Sq aC) × (Sq Int) × (Sq Int), (Sq Int) × Int, (Sq Int), ((Sq Int)) ⊕ ((Sq Int)), fun p => ⟨[(3, .fn 37 []), (11, .ptr 1409 0), (12, .own 1345 0), (30, .int .i64 p.2.2)], [(0, rowA 0 1 3 (eI .i64) p.1.1), (129, .nilrow 0), (1089, rowA 0 1 3 (eI .i64) p.2.1), (1345, rowA 0 1 3 (eI .i64) p.1.2.1), (1409, .var [sqA 2 ay.enc p.1.2.2.1, sqA 10 aB.enc p.1.2.2.2.1, sqA 4 SFan.enc p.1.2.2.2.2.1, sqA 3 aC.enc p.1.2.2.2.2.2.1, sqA 1 (eI .i64) p.1.2.2.2.2.2.2.1, sqA 1 (eI .i64) p.1.2.2.2.2.2.2.2, .own 1089 0])], 1665⟩, fun f v => bN f.1 f.2.1 f.2.2.1 f.2.2.2.1 f.2.2.2.2.1 f.2.2.2.2.2.1 f.2.2.2.2.2.2.1 f.2.2.2.2.2.2.2 v.1 v.2, false, (.exit 0), (fun x a => ⟨[(8, .undef), (9, .undef)], [(0, blkS x 0), (129, .nilrow 0), (1089, rowA 0 1 3 (eI .i64) a), (1345, blkS x 1345), (1409, blkS x 1409)], 1665⟩), .ret, (fun x y => match y with | .inl a => ⟨[(8, .own 129 0), (9, .int .i64 (2 : Int))], [(0, blkS x 0), (129, .nilrow 0), (1089, rowA 0 1 3 (eI .i64) a), (1345, blkS x 1345), (1409, blkS x 1409)], 1665⟩ | .inr a => ⟨[(8, .own 1089 0), (9, .int .i64 (0 : Int))], [(0, blkS x 0), (129, .nilrow 0), (1089, rowA 0 1 3 (eI .i64) a), (1345, blkS x 1345), (1409, blkS x 1409)], 1665⟩), c2, c2k⟩
def fV (u6_0 u6_2 : Sq Int) (u6_3 : Sq ay) (u6_4 : Sq aB) (u6_5 : Sq SFan) (u6_6 : Sq aC) (u6_7 u6_8 u6_1 : Sq Int) (u6_9 : Int) : Option (((Sq Int)) ⊕ (((Sq Int)) ⊕ ((Sq Int)))) := jI.val ((u6_0, u6_2, u6_3, u6_4, u6_5, u6_6, u6_7, u6_8), (u6_1, u6_9))
theorem tH (u6_0 u6_2 : Sq Int) (u6_3 : Sq ay) (u6_4 : Sq aB) (u6_5 : Sq SFan) (u6_6 : Sq aC) (u6_7 u6_8 u6_1 : Sq Int) (u6_9 : Int) : fV u6_0 u6_2 u6_3 u6_4 u6_5 u6_6 u6_7 u6_8 u6_1 u6_9 = fixO (fun v : (Sq Int) × Int => bN u6_0 u6_2 u6_3 u6_4 u6_5 u6_6 u6_7 u6_8 v.1 v.2) (u6_1, u6_9) := jI.val_eq (fun x => ((sqB dI (blkS x 0), sqB dI (blkS x 1345), sqD ay.dec (cellS x 1409 0), sqD aB.dec (cellS x 1409 1), sqD SFan.dec (cellS x 1409 2), sqD aC.dec (cellS x 1409 3), sqD dI (cellS x 1409 4), sqD dI (cellS x 1409 5)), (sqB dI (blkS x 1089), intA (aget x.tm 30)))) (fun p => by kernel_rfl) ((u6_0, u6_2, u6_3, u6_4, u6_5, u6_6, u6_7, u6_8), (u6_1, u6_9))
def zh (a : SAir) (s : au) (start : Sq Int) : DT ((Sq Int) × Int) :=
 .bind (Bd a s start) fun z1 =>
 .ite (z1 != (0 : Int)) (
 .leaf ((Sq.mk 0 (fun _ => (0 : Int))), z1)) (
 .bind (slices_Clone start) fun z2 =>
 .bind (kK a.Mine) fun z3 =>
 .sum (fV start z3 a.Mine.Places a.Mine.Roads a.Fans a.Doors s.Fans s.Doors z2 (0 : Int)) (fun _ =>
 .leaf ((Sq.mk 0 (fun _ => (0 : Int))), (2 : Int))) (fun y0 => .sum (some y0) (fun _ =>
 .leaf ((Sq.mk 0 (fun _ => (0 : Int))), (2 : Int))) (fun y1 => .leaf (y1, (0 : Int)))))
def iE : FnM := nfM (SAir × au × (Sq Int)) ((Sq Int) × Int) (fun p => ([.agg (SAir.enc p.1), .agg (au.enc p.2.1), .own 0 0, .fn 37 []], [rowA 0 1 3 (eI .i64) p.2.2])) (fun p => zh p.1 p.2.1 p.2.2) (fun r => .tup [.own 1 0, .int .i64 r.2]) (fun ins r => [dB ins 0, rowA 0 1 3 (eI .i64) r.1])
def Bv : Env := envM [(51, j6.c), (52, mF.c), (53, gM.c), (54, bB.c)] [(6, [3, 11, 12, 30], [8, 9]), (2000052, [], []), (2000054, [2], [])] [(6, jI.c)] [(2000000, [.asrow 129 3 1 (fun _ => (eI .i64) (0 : Int))])] [(6, [0, 129, 1089, 1345, 1409]), (6000008, [129])] 1
def Rp : Env := { Bv with nt := 46 }
theorem EP : aG Rp (aH 6 Tryz.f34) jI.c := jI.tells 1665 (fun _ => by kernel_rfl) (fun _ _ _ _ => by kernel_rfl) (fun _ _ _ _ => by kernel_rfl) fun R f v N K => by kernel_rfl
theorem J5 : aN Tryz.prog 34 iE.c := iE.tells Tryz.func34 (show ∀ p, arun Bv Tryz.f34 (iE.enc p).1 (iE.enc p).2 = _ from fun p => by kernel_rfl) (bf [aH 6 Tryz.f34] (by kernel_rfl) ⟨lpT (by kernel_rfl) EP, trivial⟩) (.cons xq (.cons FC (.cons pK (.cons rJ .nil))))
def Bg (a : SAir) (s : au) (start : Sq Int) : Option ((Sq Int) × Int) := iE.val (a, s, start)
theorem O9 (a : SAir) (s : au) (start : Sq Int) : Bg a s start = (zh a s start).get := iE.val_eq (fun x => (SAir.dec (aggL (gd x.1 0)), au.dec (aggL (gd x.1 1)), sqB dI (dB x.2 0))) (fun p => by kernel_rfl) (a, s, start)
def Nv (a : SAir) (s : au) (start : Sq Int) : DT ((Sq Int) × Int) :=
 .bind (Bg a s start) fun z0 =>
 .leaf (z0.1, z0.2)
def rH : FnM := nfM (SAir × au × (Sq Int)) ((Sq Int) × Int) (fun p => ([.agg (SAir.enc p.1), .agg (au.enc p.2.1), .own 0 0], [rowA 0 1 3 (eI .i64) p.2.2])) (fun p => Nv p.1 p.2.1 p.2.2) (fun r => .tup [.own 1 0, .int .i64 r.2]) (fun ins r => [dB ins 0, rowA 0 1 3 (eI .i64) r.1])
def aax : Env := envM [(34, iE.c)] [(2000034, [], [])] [] [] [] 1
theorem KP : aN Tryz.prog 15 rH.c := rH.tells Tryz.func15 (show ∀ p, arun aax Tryz.f15 (rH.enc p).1 (rH.enc p).2 = _ from fun p => by kernel_rfl) aP (.cons J5 .nil)
def H9 (a : SAir) (s : au) (start : Sq Int) : Option ((Sq Int) × Int) := rH.val (a, s, start)
theorem ach (a : SAir) (s : au) (start : Sq Int) : H9 a s start = (Nv a s start).get := rH.val_eq (fun x => (SAir.dec (aggL (gd x.1 0)), au.dec (aggL (gd x.1 1)), sqB dI (dB x.2 0))) (fun p => by kernel_rfl) (a, s, start)
def wK (n : bg) (place : Int) : DT (Int × Bool) :=
 .bind (Iw n.air_ n.setting_ n.pressures_ place) fun z0 =>
 .leaf (z0.1, z0.2)
def fD : FnM := flM (bg × Int) (Int × Bool) (fun p => ([.agg (bg.enc p.1), .int .i64 p.2], [])) (fun p => wK p.1 p.2) (fun r => .tup [.int .i64 r.1, .bool r.2]) (fun _ => rfl)
def J4 : Env := envM [(55, mO.c)] [] [] [] [] 0
theorem Gw : aN Tryz.prog 35 fD.c := fD.tells Tryz.func35 (show ∀ p, arun J4 Tryz.f35 (fD.enc p).1 (fD.enc p).2 = _ from fun p => by kernel_rfl) aP (.cons Qr .nil)
def tC (n : bg) (place : Int) : Option (Int × Bool) := fD.val (n, place)
theorem K9 (n : bg) (place : Int) : tC n place = (wK n place).get := fD.val_eq (fun x => (bg.dec (aggL (gd x.1 0)), intA (gd x.1 1))) (fun p => by kernel_rfl) (n, place)
def dh (u2_2 : Sq Int) (u2_3 : Sq ay) (u2_4 : Sq aB) (u2_5 : Sq SFan) (u2_6 : Sq aC) (u2_7 u2_8 u2_1 : Sq Int) (u2_9 : Bool) (u2_10 : Int) : DT (LR ((Sq Int) × Bool × Int) (Bool × (Sq Int)) ((Sq Int))) :=
 .ite (decide (u2_10 < ((u2_2.n : Nat) : Int))) (
 .ite (decide ((0 : Int) ≤ u2_10 ∧ u2_10 < ((u2_2.n : Nat) : Int))) (
 .bind (tC (bg.mk (SAir.mk (aL.mk u2_3 u2_4) u2_5 u2_6) (au.mk u2_7 u2_8) u2_1) (u2_2.f (Int.toNat u2_10))) fun z0 =>
 .ite (!z0.2) (
 .leaf (.r u2_1)) (
 .ite u2_9 (
 .ite (decide ((0 : Int) ≤ (u2_2.f (Int.toNat u2_10)) ∧ (u2_2.f (Int.toNat u2_10)) < ((u2_1.n : Nat) : Int))) (
 .leaf (.next ((Sq.mk u2_1.n (fun k0 => (cond (Nat.beq k0 (Int.toNat (u2_2.f (Int.toNat u2_10)))) z0.1 (u2_1.f k0)))), true, (wr (u2_10 + (1 : Int)))))) (
 .fail)) (
 .ite (decide ((0 : Int) ≤ (u2_2.f (Int.toNat u2_10)) ∧ (u2_2.f (Int.toNat u2_10)) < ((u2_1.n : Nat) : Int))) (
 .ite (decide ((0 : Int) ≤ (u2_2.f (Int.toNat u2_10)) ∧ (u2_2.f (Int.toNat u2_10)) < ((u2_1.n : Nat) : Int))) (
 .leaf (.next ((Sq.mk u2_1.n (fun k1 => (cond (Nat.beq k1 (Int.toNat (u2_2.f (Int.toNat u2_10)))) z0.1 (u2_1.f k1)))), (z0.1 != (u2_1.f (Int.toNat (u2_2.f (Int.toNat u2_10))))), (wr (u2_10 + (1 : Int)))))) (
 .fail)) (
 .fail)))) (
 .fail)) (
 .leaf (.l (u2_9, u2_1)))
def fE : LpM := ⟨(Sq Int) × (Sq ay) × (Sq aB) × (Sq SFan) × (Sq aC) × (Sq Int) × (Sq Int), (Sq Int) × Bool × Int, Bool × (Sq Int), (Sq Int), fun p => ⟨[(2, .fn 35 []), (3, .ptr 2 0), (6, .bool p.2.2.1), (12, .own 1 0), (13, .int .i64 ((p.1.1.n : Nat) : Int)), (14, .int .i64 p.2.2.2)], [(0, rowA 0 1 3 (eI .i64) p.2.1), (1, rowA 0 1 3 (eI .i64) p.1.1), (2, .var [sqA 2 ay.enc p.1.2.1, sqA 10 aB.enc p.1.2.2.1, sqA 4 SFan.enc p.1.2.2.2.1, sqA 3 aC.enc p.1.2.2.2.2.1, sqA 1 (eI .i64) p.1.2.2.2.2.2.1, sqA 1 (eI .i64) p.1.2.2.2.2.2.2, .own 0 0])], 386⟩, fun f v => dh f.1 f.2.1 f.2.2.1 f.2.2.2.1 f.2.2.2.2.1 f.2.2.2.2.2.1 f.2.2.2.2.2.2 v.1 v.2.1 v.2.2, false, (.exit 0), (fun x a => ⟨[(6, .bool a.1), (7, .undef)], [(0, rowA 0 1 3 (eI .i64) a.2), (1, blkS x 1), (2, blkS x 2)], 386⟩), .ret, (fun x a => ⟨[(6, .bool false), (7, .bool false)], [(0, rowA 0 1 3 (eI .i64) a), (1, blkS x 1), (2, blkS x 2)], 386⟩), c1, c1k⟩
def dW (u2_2 : Sq Int) (u2_3 : Sq ay) (u2_4 : Sq aB) (u2_5 : Sq SFan) (u2_6 : Sq aC) (u2_7 u2_8 u2_1 : Sq Int) (u2_9 : Bool) (u2_10 : Int) : Option ((Bool × (Sq Int)) ⊕ ((Sq Int))) := fE.val ((u2_2, u2_3, u2_4, u2_5, u2_6, u2_7, u2_8), (u2_1, u2_9, u2_10))
theorem iM (u2_2 : Sq Int) (u2_3 : Sq ay) (u2_4 : Sq aB) (u2_5 : Sq SFan) (u2_6 : Sq aC) (u2_7 u2_8 u2_1 : Sq Int) (u2_9 : Bool) (u2_10 : Int) : dW u2_2 u2_3 u2_4 u2_5 u2_6 u2_7 u2_8 u2_1 u2_9 u2_10 = fixO (fun v : (Sq Int) × Bool × Int => dh u2_2 u2_3 u2_4 u2_5 u2_6 u2_7 u2_8 v.1 v.2.1 v.2.2) (u2_1, u2_9, u2_10) := fE.val_eq (fun x => ((sqB dI (blkS x 1), sqD ay.dec (cellS x 2 0), sqD aB.dec (cellS x 2 1), sqD SFan.dec (cellS x 2 2), sqD aC.dec (cellS x 2 3), sqD dI (cellS x 2 4), sqD dI (cellS x 2 5)), (sqB dI (blkS x 0), iR (aget x.tm 6), intA (aget x.tm 14)))) (fun p => by kernel_rfl) ((u2_2, u2_3, u2_4, u2_5, u2_6, u2_7, u2_8), (u2_1, u2_9, u2_10))
def qV (n : bg) (places : Sq Int) : DT (Bool × Bool × (Sq Int)) :=
 .sum (dW places n.air_.Mine.Places n.air_.Mine.Roads n.air_.Fans n.air_.Doors n.setting_.Fans n.setting_.Doors n.pressures_ false (0 : Int)) (fun y0 =>
 .leaf (y0.1, true, y0.2)) (fun y1 => .leaf (false, false, y1))
def bG : FnM := nfM (bg × (Sq Int)) (Bool × Bool × (Sq Int)) (fun p => ([.agg [sqA 2 ay.enc p.1.air_.Mine.Places, sqA 10 aB.enc p.1.air_.Mine.Roads, sqA 4 SFan.enc p.1.air_.Fans, sqA 3 aC.enc p.1.air_.Doors, sqA 1 (eI .i64) p.1.setting_.Fans, sqA 1 (eI .i64) p.1.setting_.Doors, .own 0 0], .own 1 0, .fn 35 []], [rowA 0 1 3 (eI .i64) p.1.pressures_, rowA 0 1 3 (eI .i64) p.2])) (fun p => qV p.1 p.2) (fun r => .tup [.bool r.1, .bool r.2.1]) (fun ins r => [rowA 0 1 3 (eI .i64) r.2.2, dB ins 1])
def xw : Env := envM [(35, fD.c)] [(2, [2, 3, 6, 12, 13, 14], [6, 7])] [(2, fE.c)] [] [(2, [0, 1, 2])] 2
def Ia : Env := { xw with nt := 44 }
theorem Bf : aG Ia (aH 2 Tryz.f54) fE.c := fE.tells 386 (fun _ => by kernel_rfl) (fun _ _ _ _ => by kernel_rfl) (fun _ _ _ _ => by kernel_rfl) fun R f v N K => by kernel_rfl
theorem vG : aN Tryz.prog 54 bG.c := bG.tells Tryz.func54 (show ∀ p, arun xw Tryz.f54 (bG.enc p).1 (bG.enc p).2 = _ from fun p => by kernel_rfl) (bf [aH 2 Tryz.f54] (by kernel_rfl) ⟨lpT (by kernel_rfl) Bf, trivial⟩) (.cons Gw .nil)
def eG (n : bg) (places : Sq Int) : Option (Bool × Bool × (Sq Int)) := bG.val (n, places)
theorem Gx (n : bg) (places : Sq Int) : eG n places = (qV n places).get := bG.val_eq (fun x => (⟨⟨⟨sqD ay.dec (gd (aggL (gd x.1 0)) 0), sqD aB.dec (gd (aggL (gd x.1 0)) 1)⟩, sqD SFan.dec (gd (aggL (gd x.1 0)) 2), sqD aC.dec (gd (aggL (gd x.1 0)) 3)⟩, ⟨sqD dI (gd (aggL (gd x.1 0)) 4), sqD dI (gd (aggL (gd x.1 0)) 5)⟩, sqB dI (dB x.2 0)⟩, sqB dI (dB x.2 1))) (fun p => by kernel_rfl) (n, places)
def dJ (_u6_0 u6_2 : Sq Int) (u6_3 : Sq ay) (u6_4 : Sq aB) (u6_5 : Sq SFan) (u6_6 : Sq aC) (u6_7 u6_8 u6_1 : Sq Int) (u6_9 : Int) : DT (LR ((Sq Int) × Int) ((Sq Int)) (((Sq Int)) ⊕ ((Sq Int)))) :=
 .ite (decide (u6_9 < (200 : Int))) (
 .bind (eG (bg.mk (SAir.mk (aL.mk u6_3 u6_4) u6_5 u6_6) (au.mk u6_7 u6_8) u6_1) u6_2) fun z0 =>
 .ite (!z0.2.1) (
 .leaf (.r (Sum.inl (z0.2.2)))) (
 .ite (!z0.1) (
 .leaf (.r (Sum.inr (z0.2.2)))) (
 .leaf (.next (z0.2.2, (wr (u6_9 + (1 : Int)))))))) (
 .leaf (.l u6_1))
def lX : LpM := ⟨(Sq Int) × (Sq Int) × (Sq ay) × (Sq aB) × (Sq SFan) × (Sq aC) × (Sq Int) × (Sq Int), (Sq Int) × Int, (Sq Int), ((Sq Int)) ⊕ ((Sq Int)), fun p => ⟨[(3, .fn 35 []), (11, .ptr 1409 0), (12, .own 1345 0), (30, .int .i64 p.2.2)], [(0, rowA 0 1 3 (eI .i64) p.1.1), (129, .nilrow 0), (1089, rowA 0 1 3 (eI .i64) p.2.1), (1345, rowA 0 1 3 (eI .i64) p.1.2.1), (1409, .var [sqA 2 ay.enc p.1.2.2.1, sqA 10 aB.enc p.1.2.2.2.1, sqA 4 SFan.enc p.1.2.2.2.2.1, sqA 3 aC.enc p.1.2.2.2.2.2.1, sqA 1 (eI .i64) p.1.2.2.2.2.2.2.1, sqA 1 (eI .i64) p.1.2.2.2.2.2.2.2, .own 1089 0])], 1665⟩, fun f v => dJ f.1 f.2.1 f.2.2.1 f.2.2.2.1 f.2.2.2.2.1 f.2.2.2.2.2.1 f.2.2.2.2.2.2.1 f.2.2.2.2.2.2.2 v.1 v.2, false, (.exit 0), (fun x a => ⟨[(8, .undef), (9, .undef)], [(0, blkS x 0), (129, .nilrow 0), (1089, rowA 0 1 3 (eI .i64) a), (1345, blkS x 1345), (1409, blkS x 1409)], 1665⟩), .ret, (fun x y => match y with | .inl a => ⟨[(8, .own 129 0), (9, .int .i64 (2 : Int))], [(0, blkS x 0), (129, .nilrow 0), (1089, rowA 0 1 3 (eI .i64) a), (1345, blkS x 1345), (1409, blkS x 1409)], 1665⟩ | .inr a => ⟨[(8, .own 1089 0), (9, .int .i64 (0 : Int))], [(0, blkS x 0), (129, .nilrow 0), (1089, rowA 0 1 3 (eI .i64) a), (1345, blkS x 1345), (1409, blkS x 1409)], 1665⟩), c2, c2k⟩
def ji (u6_0 u6_2 : Sq Int) (u6_3 : Sq ay) (u6_4 : Sq aB) (u6_5 : Sq SFan) (u6_6 : Sq aC) (u6_7 u6_8 u6_1 : Sq Int) (u6_9 : Int) : Option (((Sq Int)) ⊕ (((Sq Int)) ⊕ ((Sq Int)))) := lX.val ((u6_0, u6_2, u6_3, u6_4, u6_5, u6_6, u6_7, u6_8), (u6_1, u6_9))
theorem wL (u6_0 u6_2 : Sq Int) (u6_3 : Sq ay) (u6_4 : Sq aB) (u6_5 : Sq SFan) (u6_6 : Sq aC) (u6_7 u6_8 u6_1 : Sq Int) (u6_9 : Int) : ji u6_0 u6_2 u6_3 u6_4 u6_5 u6_6 u6_7 u6_8 u6_1 u6_9 = fixO (fun v : (Sq Int) × Int => dJ u6_0 u6_2 u6_3 u6_4 u6_5 u6_6 u6_7 u6_8 v.1 v.2) (u6_1, u6_9) := lX.val_eq (fun x => ((sqB dI (blkS x 0), sqB dI (blkS x 1345), sqD ay.dec (cellS x 1409 0), sqD aB.dec (cellS x 1409 1), sqD SFan.dec (cellS x 1409 2), sqD aC.dec (cellS x 1409 3), sqD dI (cellS x 1409 4), sqD dI (cellS x 1409 5)), (sqB dI (blkS x 1089), intA (aget x.tm 30)))) (fun p => by kernel_rfl) ((u6_0, u6_2, u6_3, u6_4, u6_5, u6_6, u6_7, u6_8), (u6_1, u6_9))
def Bh (a : SAir) (s : au) (start : Sq Int) : DT ((Sq Int) × Int) :=
 .bind (Bd a s start) fun z1 =>
 .ite (z1 != (0 : Int)) (
 .leaf ((Sq.mk 0 (fun _ => (0 : Int))), z1)) (
 .bind (slices_Clone start) fun z2 =>
 .bind (kK a.Mine) fun z3 =>
 .sum (ji start z3 a.Mine.Places a.Mine.Roads a.Fans a.Doors s.Fans s.Doors z2 (0 : Int)) (fun _ =>
 .leaf ((Sq.mk 0 (fun _ => (0 : Int))), (2 : Int))) (fun y0 => .sum (some y0) (fun _ =>
 .leaf ((Sq.mk 0 (fun _ => (0 : Int))), (2 : Int))) (fun y1 => .leaf (y1, (0 : Int)))))
def jU : FnM := nfM (SAir × au × (Sq Int)) ((Sq Int) × Int) (fun p => ([.agg (SAir.enc p.1), .agg (au.enc p.2.1), .own 0 0, .fn 35 []], [rowA 0 1 3 (eI .i64) p.2.2])) (fun p => Bh p.1 p.2.1 p.2.2) (fun r => .tup [.own 1 0, .int .i64 r.2]) (fun ins r => [dB ins 0, rowA 0 1 3 (eI .i64) r.1])
def Er : Env := envM [(51, j6.c), (52, mF.c), (53, gM.c), (54, bG.c)] [(6, [3, 11, 12, 30], [8, 9]), (2000052, [], []), (2000054, [2], [])] [(6, lX.c)] [(2000000, [.asrow 129 3 1 (fun _ => (eI .i64) (0 : Int))])] [(6, [0, 129, 1089, 1345, 1409]), (6000008, [129])] 1
def VB : Env := { Er with nt := 46 }
theorem Ib : aG VB (aH 6 Tryz.f34) lX.c := lX.tells 1665 (fun _ => by kernel_rfl) (fun _ _ _ _ => by kernel_rfl) (fun _ _ _ _ => by kernel_rfl) fun R f v N K => by kernel_rfl
theorem NC : aN Tryz.prog 34 jU.c := jU.tells Tryz.func34 (show ∀ p, arun Er Tryz.f34 (jU.enc p).1 (jU.enc p).2 = _ from fun p => by kernel_rfl) (bf [aH 6 Tryz.f34] (by kernel_rfl) ⟨lpT (by kernel_rfl) Ib, trivial⟩) (.cons xq (.cons FC (.cons pK (.cons vG .nil))))
def Ep (a : SAir) (s : au) (start : Sq Int) : Option ((Sq Int) × Int) := jU.val (a, s, start)
theorem TR (a : SAir) (s : au) (start : Sq Int) : Ep a s start = (Bh a s start).get := jU.val_eq (fun x => (SAir.dec (aggL (gd x.1 0)), au.dec (aggL (gd x.1 1)), sqB dI (dB x.2 0))) (fun p => by kernel_rfl) (a, s, start)
def Nw (a : SAir) (s : au) (start : Sq Int) : DT ((Sq Int) × Int) :=
 .bind (Ep a s start) fun z0 =>
 .leaf (z0.1, z0.2)
def pJ : FnM := nfM (SAir × au × (Sq Int)) ((Sq Int) × Int) (fun p => ([.agg (SAir.enc p.1), .agg (au.enc p.2.1), .own 0 0], [rowA 0 1 3 (eI .i64) p.2.2])) (fun p => Nw p.1 p.2.1 p.2.2) (fun r => .tup [.own 1 0, .int .i64 r.2]) (fun ins r => [dB ins 0, rowA 0 1 3 (eI .i64) r.1])
def aay : Env := envM [(34, jU.c)] [(2000034, [], [])] [] [] [] 1
theorem BX : aN Tryz.prog 13 pJ.c := pJ.tells Tryz.func13 (show ∀ p, arun aay Tryz.f13 (pJ.enc p).1 (pJ.enc p).2 = _ from fun p => by kernel_rfl) aP (.cons NC .nil)
def Bc (a : SAir) (s : au) (start : Sq Int) : Option ((Sq Int) × Int) := pJ.val (a, s, start)
theorem aci (a : SAir) (s : au) (start : Sq Int) : Bc a s start = (Nw a s start).get := pJ.val_eq (fun x => (SAir.dec (aggL (gd x.1 0)), au.dec (aggL (gd x.1 1)), sqB dI (dB x.2 0))) (fun p => by kernel_rfl) (a, s, start)
def J2 (a : SAir) (s : au) : DT (bM × Int) :=
 .ite (decide ((0 : Int) ≤ ((a.Mine.Places.n : Nat) : Int) ∧ ((a.Mine.Places.n : Nat) : Int) ≤ ((a.Mine.Places.n : Nat) : Int) ∧ ((a.Mine.Places.n : Nat) : Int) * ((8 : Nat) : Int) ≤ 140737488355328 ∧ ((a.Mine.Places.n : Nat) : Int) ≤ 1099511627776)) (
 .bind (H9 a s (Sq.mk (Int.toNat ((a.Mine.Places.n : Nat) : Int)) (fun _ => (0 : Int)))) fun z0 =>
 .ite (z0.2 != (0 : Int)) (
 .leaf ((bM.mk (Sq.mk 0 (fun _ => (0 : Int))) (Sq.mk 0 (fun _ => (0 : Int)))), z0.2)) (
 .bind (Bc a s z0.1) fun z1 =>
 .ite (z1.2 != (0 : Int)) (
 .leaf ((bM.mk (Sq.mk 0 (fun _ => (0 : Int))) (Sq.mk 0 (fun _ => (0 : Int)))), z1.2)) (
 .bind (H9 a s z1.1) fun z2 =>
 .ite (z2.2 != (0 : Int)) (.leaf ((bM.mk (Sq.mk 0 (fun _ => (0 : Int))) (Sq.mk 0 (fun _ => (0 : Int)))), z2.2)) (.leaf ((bM.mk z2.1 z1.1), (0 : Int)))))) (
 .fail)
def j5 : FnM := nfM (SAir × au) (bM × Int) (fun p => ([.agg (SAir.enc p.1), .agg (au.enc p.2)], [])) (fun p => J2 p.1 p.2) (fun r => .tup [.agg [.own 0 0, .own 1 0], .int .i64 r.2]) (fun _ r => [rowA 0 1 3 (eI .i64) r.1.Low, rowA 0 1 3 (eI .i64) r.1.High])
def Zb : Env := envM [(15, rH.c), (13, pJ.c)] [(2000015, [], []), (2000013, [], [])] [] [(2000000, [.asrow 1216 3 1 (fun _ => (eI .i64) (0 : Int)), .asrow 2176 3 1 (fun _ => (eI .i64) (0 : Int)), .asrow 3136 3 1 (fun _ => (eI .i64) (0 : Int)), .asrow 1217 3 1 (fun _ => (eI .i64) (0 : Int)), .asrow 2177 3 1 (fun _ => (eI .i64) (0 : Int)), .asrow 3137 3 1 (fun _ => (eI .i64) (0 : Int))])] [] 0
theorem xk : aN Tryz.prog 20 j5.c := j5.tells Tryz.func20 (show ∀ p, arun Zb Tryz.f20 (j5.enc p).1 (j5.enc p).2 = _ from fun p => by kernel_rfl) aP (.cons KP (.cons BX .nil))
def wJ (a : SAir) (s : au) : Option (bM × Int) := j5.val (a, s)
theorem aaz (a : SAir) (s : au) : wJ a s = (J2 a s).get := j5.val_eq (fun x => (SAir.dec (aggL (gd x.1 0)), au.dec (aggL (gd x.1 1)))) (fun p => by kernel_rfl) (a, s)
def bK (u6_1 : Sq Int) (u6_2 : Sq ay) (u6_3 : Sq aB) (u6_4 : Sq SFan) (u6_5 : Sq aC) (u6_6 u6_7 u6_0 : Sq Int) (u6_8 : Int) : DT (LR ((Sq Int) × Int) ((Sq Int)) (((Sq Int)) ⊕ ((Sq Int)))) :=
 .ite (decide (u6_8 < (200 : Int))) (
 .bind (eG (bg.mk (SAir.mk (aL.mk u6_2 u6_3) u6_4 u6_5) (au.mk u6_6 u6_7) u6_0) u6_1) fun z0 =>
 .ite (!z0.2.1) (
 .leaf (.r (Sum.inl (z0.2.2)))) (
 .ite (!z0.1) (
 .leaf (.r (Sum.inr (z0.2.2)))) (
 .leaf (.next (z0.2.2, (wr (u6_8 + (1 : Int)))))))) (
 .leaf (.l u6_0))
def jk : LpM := ⟨(Sq Int) × (Sq ay) × (Sq aB) × (Sq SFan) × (Sq aC) × (Sq Int) × (Sq Int), (Sq Int) × Int, (Sq Int), ((Sq Int)) ⊕ ((Sq Int)), fun p => ⟨[(3, .fn 35 []), (11, .ptr 1408 0), (12, .own 1344 0), (30, .int .i64 p.2.2)], [(128, .nilrow 0), (1088, rowA 0 1 3 (eI .i64) p.2.1), (1344, rowA 0 1 3 (eI .i64) p.1.1), (1408, .var [sqA 2 ay.enc p.1.2.1, sqA 10 aB.enc p.1.2.2.1, sqA 4 SFan.enc p.1.2.2.2.1, sqA 3 aC.enc p.1.2.2.2.2.1, sqA 1 (eI .i64) p.1.2.2.2.2.2.1, sqA 1 (eI .i64) p.1.2.2.2.2.2.2, .own 1088 0])], 1664⟩, fun f v => bK f.1 f.2.1 f.2.2.1 f.2.2.2.1 f.2.2.2.2.1 f.2.2.2.2.2.1 f.2.2.2.2.2.2 v.1 v.2, false, (.exit 0), (fun x a => ⟨[(8, .undef), (9, .undef)], [(128, .nilrow 0), (1088, rowA 0 1 3 (eI .i64) a), (1344, blkS x 1344), (1408, blkS x 1408)], 1664⟩), .ret, (fun x y => match y with | .inl a => ⟨[(8, .own 128 0), (9, .int .i64 (2 : Int))], [(128, .nilrow 0), (1088, rowA 0 1 3 (eI .i64) a), (1344, blkS x 1344), (1408, blkS x 1408)], 1664⟩ | .inr a => ⟨[(8, .own 1088 0), (9, .int .i64 (0 : Int))], [(128, .nilrow 0), (1088, rowA 0 1 3 (eI .i64) a), (1344, blkS x 1344), (1408, blkS x 1408)], 1664⟩), c2, c2k⟩
def fF (u6_1 : Sq Int) (u6_2 : Sq ay) (u6_3 : Sq aB) (u6_4 : Sq SFan) (u6_5 : Sq aC) (u6_6 u6_7 u6_0 : Sq Int) (u6_8 : Int) : Option (((Sq Int)) ⊕ (((Sq Int)) ⊕ ((Sq Int)))) := jk.val ((u6_1, u6_2, u6_3, u6_4, u6_5, u6_6, u6_7), (u6_0, u6_8))
theorem qW (u6_1 : Sq Int) (u6_2 : Sq ay) (u6_3 : Sq aB) (u6_4 : Sq SFan) (u6_5 : Sq aC) (u6_6 u6_7 u6_0 : Sq Int) (u6_8 : Int) : fF u6_1 u6_2 u6_3 u6_4 u6_5 u6_6 u6_7 u6_0 u6_8 = fixO (fun v : (Sq Int) × Int => bK u6_1 u6_2 u6_3 u6_4 u6_5 u6_6 u6_7 v.1 v.2) (u6_0, u6_8) := jk.val_eq (fun x => ((sqB dI (blkS x 1344), sqD ay.dec (cellS x 1408 0), sqD aB.dec (cellS x 1408 1), sqD SFan.dec (cellS x 1408 2), sqD aC.dec (cellS x 1408 3), sqD dI (cellS x 1408 4), sqD dI (cellS x 1408 5)), (sqB dI (blkS x 1088), intA (aget x.tm 30)))) (fun p => by kernel_rfl) ((u6_1, u6_2, u6_3, u6_4, u6_5, u6_6, u6_7), (u6_0, u6_8))
def xW (a : SAir) (s : au) (start : Sq Int) : DT ((Sq Int) × Int) :=
 .bind (Bd a s start) fun z1 =>
 .ite (z1 != (0 : Int)) (
 .leaf ((Sq.mk 0 (fun _ => (0 : Int))), z1)) (
 .bind (zW start) fun z2 =>
 .bind (kK a.Mine) fun z3 =>
 .sum (fF z3 a.Mine.Places a.Mine.Roads a.Fans a.Doors s.Fans s.Doors z2 (0 : Int)) (fun _ =>
 .leaf ((Sq.mk 0 (fun _ => (0 : Int))), (2 : Int))) (fun y0 => .sum (some y0) (fun _ =>
 .leaf ((Sq.mk 0 (fun _ => (0 : Int))), (2 : Int))) (fun y1 => .leaf (y1, (0 : Int)))))
def fZ : FnM := nfM (SAir × au × (Sq Int)) ((Sq Int) × Int) (fun p => ([.agg (SAir.enc p.1), .agg (au.enc p.2.1), sqA 1 (eI .i64) p.2.2, .fn 35 []], [])) (fun p => xW p.1 p.2.1 p.2.2) (fun r => .tup [.own 0 0, .int .i64 r.2]) (fun _ r => [rowA 0 1 3 (eI .i64) r.1])
def Ak : Env := envM [(51, j6.c), (52, qY.c), (53, gM.c), (54, bG.c)] [(6, [3, 11, 12, 30], [8, 9]), (2000052, [], []), (2000054, [2], [])] [(6, jk.c)] [(2000000, [.asrow 128 3 1 (fun _ => (eI .i64) (0 : Int))])] [(6, [128, 1088, 1344, 1408]), (6000008, [128])] 0
def Pb : Env := { Ak with nt := 46 }
theorem Es : aG Pb (aH 6 Tryz.f34) jk.c := jk.tells 1664 (fun _ => by kernel_rfl) (fun _ _ _ _ => by kernel_rfl) (fun _ _ _ _ => by kernel_rfl) fun R f v N K => by kernel_rfl
theorem Ic : aN Tryz.prog 34 fZ.c := fZ.tells Tryz.func34 (show ∀ p, arun Ak Tryz.f34 (fZ.enc p).1 (fZ.enc p).2 = _ from fun p => by kernel_rfl) (bf [aH 6 Tryz.f34] (by kernel_rfl) ⟨lpT (by kernel_rfl) Es, trivial⟩) (.cons xq (.cons Bw (.cons pK (.cons vG .nil))))
def zV (a : SAir) (s : au) (start : Sq Int) : Option ((Sq Int) × Int) := fZ.val (a, s, start)
theorem ND (a : SAir) (s : au) (start : Sq Int) : zV a s start = (xW a s start).get := fZ.val_eq (fun x => (SAir.dec (aggL (gd x.1 0)), au.dec (aggL (gd x.1 1)), sqD dI (gd x.1 2))) (fun p => by kernel_rfl) (a, s, start)
def Em (a : SAir) (s : au) (start : Sq Int) : DT ((Sq Int) × Int) :=
 .bind (zV a s start) fun z0 =>
 .leaf (z0.1, z0.2)
def kJ : FnM := nfM (SAir × au × (Sq Int)) ((Sq Int) × Int) (fun p => ([.agg (SAir.enc p.1), .agg (au.enc p.2.1), sqA 1 (eI .i64) p.2.2], [])) (fun p => Em p.1 p.2.1 p.2.2) (fun r => .tup [.own 0 0, .int .i64 r.2]) (fun _ r => [rowA 0 1 3 (eI .i64) r.1])
def Vz : Env := envM [(34, fZ.c)] [(2000034, [], [])] [] [] [] 0
theorem En : aN Tryz.prog 13 kJ.c := kJ.tells Tryz.func13 (show ∀ p, arun Vz Tryz.f13 (kJ.enc p).1 (kJ.enc p).2 = _ from fun p => by kernel_rfl) aP (.cons Ic .nil)
def CQ (a : SAir) (s : au) (start : Sq Int) : Option ((Sq Int) × Int) := kJ.val (a, s, start)
theorem XB (a : SAir) (s : au) (start : Sq Int) : CQ a s start = (Em a s start).get := kJ.val_eq (fun x => (SAir.dec (aggL (gd x.1 0)), au.dec (aggL (gd x.1 1)), sqD dI (gd x.1 2))) (fun p => by kernel_rfl) (a, s, start)
def bC (u6_1 : Sq Int) (u6_2 : Sq ay) (u6_3 : Sq aB) (u6_4 : Sq SFan) (u6_5 : Sq aC) (u6_6 u6_7 u6_0 : Sq Int) (u6_8 : Int) : DT (LR ((Sq Int) × Int) ((Sq Int)) (((Sq Int)) ⊕ ((Sq Int)))) :=
 .ite (decide (u6_8 < (200 : Int))) (
 .bind (bZ (bg.mk (SAir.mk (aL.mk u6_2 u6_3) u6_4 u6_5) (au.mk u6_6 u6_7) u6_0) u6_1) fun z0 =>
 .ite (!z0.2.1) (
 .leaf (.r (Sum.inl (z0.2.2)))) (
 .ite (!z0.1) (
 .leaf (.r (Sum.inr (z0.2.2)))) (
 .leaf (.next (z0.2.2, (wr (u6_8 + (1 : Int)))))))) (
 .leaf (.l u6_0))
def gN : LpM := ⟨(Sq Int) × (Sq ay) × (Sq aB) × (Sq SFan) × (Sq aC) × (Sq Int) × (Sq Int), (Sq Int) × Int, (Sq Int), ((Sq Int)) ⊕ ((Sq Int)), fun p => ⟨[(3, .fn 37 []), (11, .ptr 1408 0), (12, .own 1344 0), (30, .int .i64 p.2.2)], [(128, .nilrow 0), (1088, rowA 0 1 3 (eI .i64) p.2.1), (1344, rowA 0 1 3 (eI .i64) p.1.1), (1408, .var [sqA 2 ay.enc p.1.2.1, sqA 10 aB.enc p.1.2.2.1, sqA 4 SFan.enc p.1.2.2.2.1, sqA 3 aC.enc p.1.2.2.2.2.1, sqA 1 (eI .i64) p.1.2.2.2.2.2.1, sqA 1 (eI .i64) p.1.2.2.2.2.2.2, .own 1088 0])], 1664⟩, fun f v => bC f.1 f.2.1 f.2.2.1 f.2.2.2.1 f.2.2.2.2.1 f.2.2.2.2.2.1 f.2.2.2.2.2.2 v.1 v.2, false, (.exit 0), (fun x a => ⟨[(8, .undef), (9, .undef)], [(128, .nilrow 0), (1088, rowA 0 1 3 (eI .i64) a), (1344, blkS x 1344), (1408, blkS x 1408)], 1664⟩), .ret, (fun x y => match y with | .inl a => ⟨[(8, .own 128 0), (9, .int .i64 (2 : Int))], [(128, .nilrow 0), (1088, rowA 0 1 3 (eI .i64) a), (1344, blkS x 1344), (1408, blkS x 1408)], 1664⟩ | .inr a => ⟨[(8, .own 1088 0), (9, .int .i64 (0 : Int))], [(128, .nilrow 0), (1088, rowA 0 1 3 (eI .i64) a), (1344, blkS x 1344), (1408, blkS x 1408)], 1664⟩), c2, c2k⟩
def dH (u6_1 : Sq Int) (u6_2 : Sq ay) (u6_3 : Sq aB) (u6_4 : Sq SFan) (u6_5 : Sq aC) (u6_6 u6_7 u6_0 : Sq Int) (u6_8 : Int) : Option (((Sq Int)) ⊕ (((Sq Int)) ⊕ ((Sq Int)))) := gN.val ((u6_1, u6_2, u6_3, u6_4, u6_5, u6_6, u6_7), (u6_0, u6_8))
theorem oh (u6_1 : Sq Int) (u6_2 : Sq ay) (u6_3 : Sq aB) (u6_4 : Sq SFan) (u6_5 : Sq aC) (u6_6 u6_7 u6_0 : Sq Int) (u6_8 : Int) : dH u6_1 u6_2 u6_3 u6_4 u6_5 u6_6 u6_7 u6_0 u6_8 = fixO (fun v : (Sq Int) × Int => bC u6_1 u6_2 u6_3 u6_4 u6_5 u6_6 u6_7 v.1 v.2) (u6_0, u6_8) := gN.val_eq (fun x => ((sqB dI (blkS x 1344), sqD ay.dec (cellS x 1408 0), sqD aB.dec (cellS x 1408 1), sqD SFan.dec (cellS x 1408 2), sqD aC.dec (cellS x 1408 3), sqD dI (cellS x 1408 4), sqD dI (cellS x 1408 5)), (sqB dI (blkS x 1088), intA (aget x.tm 30)))) (fun p => by kernel_rfl) ((u6_1, u6_2, u6_3, u6_4, u6_5, u6_6, u6_7), (u6_0, u6_8))
def uQ (a : SAir) (s : au) (start : Sq Int) : DT ((Sq Int) × Int) :=
 .bind (Bd a s start) fun z1 =>
 .ite (z1 != (0 : Int)) (
 .leaf ((Sq.mk 0 (fun _ => (0 : Int))), z1)) (
 .bind (zW start) fun z2 =>
 .bind (kK a.Mine) fun z3 =>
 .sum (dH z3 a.Mine.Places a.Mine.Roads a.Fans a.Doors s.Fans s.Doors z2 (0 : Int)) (fun _ =>
 .leaf ((Sq.mk 0 (fun _ => (0 : Int))), (2 : Int))) (fun y0 => .sum (some y0) (fun _ =>
 .leaf ((Sq.mk 0 (fun _ => (0 : Int))), (2 : Int))) (fun y1 => .leaf (y1, (0 : Int)))))
def eP : FnM := nfM (SAir × au × (Sq Int)) ((Sq Int) × Int) (fun p => ([.agg (SAir.enc p.1), .agg (au.enc p.2.1), sqA 1 (eI .i64) p.2.2, .fn 37 []], [])) (fun p => uQ p.1 p.2.1 p.2.2) (fun r => .tup [.own 0 0, .int .i64 r.2]) (fun _ r => [rowA 0 1 3 (eI .i64) r.1])
def zu : Env := envM [(51, j6.c), (52, qY.c), (53, gM.c), (54, bB.c)] [(6, [3, 11, 12, 30], [8, 9]), (2000052, [], []), (2000054, [2], [])] [(6, gN.c)] [(2000000, [.asrow 128 3 1 (fun _ => (eI .i64) (0 : Int))])] [(6, [128, 1088, 1344, 1408]), (6000008, [128])] 0
def La : Env := { zu with nt := 46 }
theorem BZ : aG La (aH 6 Tryz.f34) gN.c := gN.tells 1664 (fun _ => by kernel_rfl) (fun _ _ _ _ => by kernel_rfl) (fun _ _ _ _ => by kernel_rfl) fun R f v N K => by kernel_rfl
theorem ER : aN Tryz.prog 34 eP.c := eP.tells Tryz.func34 (show ∀ p, arun zu Tryz.f34 (eP.enc p).1 (eP.enc p).2 = _ from fun p => by kernel_rfl) (bf [aH 6 Tryz.f34] (by kernel_rfl) ⟨lpT (by kernel_rfl) BZ, trivial⟩) (.cons xq (.cons Bw (.cons pK (.cons rJ .nil))))
def xV (a : SAir) (s : au) (start : Sq Int) : Option ((Sq Int) × Int) := eP.val (a, s, start)
theorem J6 (a : SAir) (s : au) (start : Sq Int) : xV a s start = (uQ a s start).get := eP.val_eq (fun x => (SAir.dec (aggL (gd x.1 0)), au.dec (aggL (gd x.1 1)), sqD dI (gd x.1 2))) (fun p => by kernel_rfl) (a, s, start)
def Ej (a : SAir) (s : au) (start : Sq Int) : DT ((Sq Int) × Int) :=
 .bind (xV a s start) fun z0 =>
 .leaf (z0.1, z0.2)
def kI : FnM := nfM (SAir × au × (Sq Int)) ((Sq Int) × Int) (fun p => ([.agg (SAir.enc p.1), .agg (au.enc p.2.1), sqA 1 (eI .i64) p.2.2], [])) (fun p => Ej p.1 p.2.1 p.2.2) (fun r => .tup [.own 0 0, .int .i64 r.2]) (fun _ r => [rowA 0 1 3 (eI .i64) r.1])
def Vy : Env := envM [(34, eP.c)] [(2000034, [], [])] [] [] [] 0
theorem El : aN Tryz.prog 15 kI.c := kI.tells Tryz.func15 (show ∀ p, arun Vy Tryz.f15 (kI.enc p).1 (kI.enc p).2 = _ from fun p => by kernel_rfl) aP (.cons ER .nil)
def zT (a : SAir) (s : au) (start : Sq Int) : Option ((Sq Int) × Int) := kI.val (a, s, start)
theorem XA (a : SAir) (s : au) (start : Sq Int) : zT a s start = (Ej a s start).get := kI.val_eq (fun x => (SAir.dec (aggL (gd x.1 0)), au.dec (aggL (gd x.1 1)), sqD dI (gd x.1 2))) (fun p => by kernel_rfl) (a, s, start)
end
end Go.Proofs.YtmfiagdelnddkaaGreat.Ab
