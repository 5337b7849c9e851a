/- A part of the proof, what is needed of it. -/
import Derived.Test.YtimkpfnbkclclaaGreatPj09
import Derived.Test.YtimkpfnbkclclaaGreatPj27
namespace Go.Proofs.YtimkpfnbkclclaaGreat.Ab
noncomputable section
open Go
attribute [local irreducible] arun
def HZ (net : qB) : DT (Bool) :=
 .leaf (decide (net.High ≤ (0 : Int)))
def tH : FnM := flM (qB) (Bool) (fun p => ([.agg (qB.enc p)], [])) (fun p => HZ p) (fun r => .bool r) (fun _ => rfl)
def O1 : Env := envM [] [] [] [] [] 0
theorem LP : aI Tryz.prog 166 tH.c := tH.tells Tryz.func166 (show ∀ p, arun O1 Tryz.f166 (tH.enc p).1 (tH.enc p).2 = _ from fun p => by kernel_rfl) p8 .nil
def Kw (net : qB) : Option (Bool) := tH.val net
theorem adG (net : qB) : Kw net = (HZ net).get := tH.val_eq (fun x => qB.dec (aggL (gd x.1 0))) (fun p => by kernel_rfl) net
def Ji (n x x2 : Int) (y0 : qM) : DT (Bool) :=
 .bind (yZ y0 (wr (x + (wr (n * x2))))) fun z0 =>
 .bind (Kw z0) fun z1 =>
 .leaf z1
def uf : FnM := nfM (Int × Int × Int × qM) (Bool) (fun p => ([.int .i64 p.1, .ptr 0 0, .ptr 1 0, .ptr 2 0, .ptr 3 0], [.var [.fn 166 []], .var [.ptr 4 0], .var [.int .i64 p.2.1], .var [.int .i64 p.2.2.1], .var [sqA 2 qA.enc p.2.2.2.air_.Mine.Places, .own 5 0, .own 6 0, .own 7 0, .own 8 0, .own 9 0, sqA 1 (eI .i64) p.2.2.2.pressures_, .int .i64 p.2.2.2.place_], rowA 0 10 81 qC.enc p.2.2.2.air_.Mine.Roads, rowA 0 4 117 SFan.enc p.2.2.2.air_.Fans, rowA 0 3 91 qD.enc p.2.2.2.air_.Doors, rowA 0 1 3 (eI .i64) p.2.2.2.setting_.Fans, rowA 0 1 3 (eI .i64) p.2.2.2.setting_.Doors])) (fun p => Ji p.1 p.2.1 p.2.2.1 p.2.2.2) (fun r => .bool r) (fun ins _ => [dB ins 0, dB ins 1, dB ins 2, dB ins 3, dB ins 4, dB ins 5, dB ins 6, dB ins 7, dB ins 8, dB ins 9])
def PW : Env := envM [(170, qR.c), (166, tH.c)] [] [] [] [] 10
theorem Nf : aI Tryz.prog 181 uf.c := uf.tells Tryz.func181 (show ∀ p, arun PW Tryz.f181 (uf.enc p).1 (uf.enc p).2 = _ from fun p => by kernel_rfl) p8 (.cons xY (.cons LP .nil))
def LU (n x x2 : Int) (y0 : qM) : Option (Bool) := uf.val (n, x, x2, y0)
theorem aeh (n x x2 : Int) (y0 : qM) : LU n x x2 y0 = (Ji n x x2 y0).get := uf.val_eq (fun x => (intA (gd x.1 0), intA (gd (varL (dB x.2 2)) 0), intA (gd (varL (dB x.2 3)) 0), ⟨⟨⟨sqD qA.dec (gd (varL (dB x.2 4)) 0), sqB qC.dec (dB x.2 5)⟩, sqB SFan.dec (dB x.2 6), sqB qD.dec (dB x.2 7)⟩, ⟨sqB dI (dB x.2 8), sqB dI (dB x.2 9)⟩, sqD dI (gd (varL (dB x.2 4)) 6), intA (gd (varL (dB x.2 4)) 7)⟩)) (fun p => by kernel_rfl) (n, x, x2, y0)
def F5 (u2_1 u2_2 : Int) (u2_3 : Sq qA) (u2_4 : Sq Int) (u2_5 : Int) (u2_6 : Sq qC) (u2_7 : Sq SFan) (u2_8 : Sq qD) (u2_9 u2_10 : Sq Int) (u2_0 u2_11 : Int) : DT (LR (Int × Int) (Int) (Unit)) :=
 .ite (decide (u2_11 < u2_0)) (
 .bind (LU (wr ((IntKind.u64.wrap (wr (u2_11 + u2_0))) / 2 ^ (Int.toNat (1 : Int)))) u2_1 u2_2 (qM.mk (SAir.mk (qI.mk u2_3 u2_6) u2_7 u2_8) (qz.mk u2_9 u2_10) u2_4 u2_5)) fun z0 =>
 .ite (!z0) (
 .leaf (.next (u2_0, (wr ((wr ((IntKind.u64.wrap (wr (u2_11 + u2_0))) / 2 ^ (Int.toNat (1 : Int)))) + (1 : Int)))))) (
 .leaf (.next ((wr ((IntKind.u64.wrap (wr (u2_11 + u2_0))) / 2 ^ (Int.toNat (1 : Int)))), u2_11)))) (
 .leaf (.l u2_11))
def xV : LpM := ⟨Int × Int × (Sq qA) × (Sq Int) × Int × (Sq qC) × (Sq SFan) × (Sq qD) × (Sq Int) × (Sq Int), Int × Int, Int, Unit, fun p => ⟨[(1, .fn 181 [.ptr 0 0, .ptr 1 0, .ptr 2 0, .ptr 3 0]), (5, .int .i64 p.2.2), (6, .int .i64 p.2.1)], [(0, .var [.fn 166 []]), (1, .var [.ptr 4 0]), (2, .var [.int .i64 p.1.1]), (3, .var [.int .i64 p.1.2.1]), (4, .var [sqA 2 qA.enc p.1.2.2.1, .own 5 0, .own 6 0, .own 7 0, .own 8 0, .own 9 0, sqA 1 (eI .i64) p.1.2.2.2.1, .int .i64 p.1.2.2.2.2.1]), (5, rowA 0 10 81 qC.enc p.1.2.2.2.2.2.1), (6, rowA 0 4 117 SFan.enc p.1.2.2.2.2.2.2.1), (7, rowA 0 3 91 qD.enc p.1.2.2.2.2.2.2.2.1), (8, rowA 0 1 3 (eI .i64) p.1.2.2.2.2.2.2.2.2.1), (9, rowA 0 1 3 (eI .i64) p.1.2.2.2.2.2.2.2.2.2)], 266⟩, fun f v => F5 f.1 f.2.1 f.2.2.1 f.2.2.2.1 f.2.2.2.2.1 f.2.2.2.2.2.1 f.2.2.2.2.2.2.1 f.2.2.2.2.2.2.2.1 f.2.2.2.2.2.2.2.2.1 f.2.2.2.2.2.2.2.2.2 v.1 v.2, true, (.exit 0), (fun x a => ⟨[(5, .int .i64 a)], [(0, .var [.fn 166 []]), (1, .var [.ptr 4 0]), (2, blkS x 2), (3, blkS x 3), (4, blkS x 4), (5, blkS x 5), (6, blkS x 6), (7, blkS x 7), (8, blkS x 8), (9, blkS x 9)], 266⟩), .ret, (fun _ _ => ⟨[], [], 0⟩), c1, c1k⟩
def M5 (u2_1 u2_2 : Int) (u2_3 : Sq qA) (u2_4 : Sq Int) (u2_5 : Int) (u2_6 : Sq qC) (u2_7 : Sq SFan) (u2_8 : Sq qD) (u2_9 u2_10 : Sq Int) (u2_0 u2_11 : Int) : Option ((Int) ⊕ (Unit)) := xV.val ((u2_1, u2_2, u2_3, u2_4, u2_5, u2_6, u2_7, u2_8, u2_9, u2_10), (u2_0, u2_11))
theorem aew (u2_1 u2_2 : Int) (u2_3 : Sq qA) (u2_4 : Sq Int) (u2_5 : Int) (u2_6 : Sq qC) (u2_7 : Sq SFan) (u2_8 : Sq qD) (u2_9 u2_10 : Sq Int) (u2_0 u2_11 : Int) : M5 u2_1 u2_2 u2_3 u2_4 u2_5 u2_6 u2_7 u2_8 u2_9 u2_10 u2_0 u2_11 = fixO (fun v : Int × Int => F5 u2_1 u2_2 u2_3 u2_4 u2_5 u2_6 u2_7 u2_8 u2_9 u2_10 v.1 v.2) (u2_0, u2_11) := xV.val_eq (fun x => ((intA (cellS x 2 0), intA (cellS x 3 0), sqD qA.dec (cellS x 4 0), sqD dI (cellS x 4 6), intA (cellS x 4 7), sqB qC.dec (blkS x 5), sqB SFan.dec (blkS x 6), sqB qD.dec (blkS x 7), sqB dI (blkS x 8), sqB dI (blkS x 9)), (intA (aget x.tm 6), intA (aget x.tm 5)))) (fun p => by kernel_rfl) ((u2_1, u2_2, u2_3, u2_4, u2_5, u2_6, u2_7, u2_8, u2_9, u2_10), (u2_0, u2_11))
def OU (n y0 y1 : Int) (y2 : qM) : DT (Int) :=
 .sum (M5 y0 y1 y2.air_.Mine.Places y2.pressures_ y2.place_ y2.air_.Mine.Roads y2.air_.Fans y2.air_.Doors y2.setting_.Fans y2.setting_.Doors n (0 : Int)) (fun y3 =>
 .leaf y3) (fun _ => .fail)
def vX : FnM := nfM (Int × Int × Int × qM) (Int) (fun p => ([.int .i64 p.1, .fn 181 [.ptr 0 0, .ptr 1 0, .ptr 2 0, .ptr 3 0]], [.var [.fn 166 []], .var [.ptr 4 0], .var [.int .i64 p.2.1], .var [.int .i64 p.2.2.1], .var [sqA 2 qA.enc p.2.2.2.air_.Mine.Places, .own 5 0, .own 6 0, .own 7 0, .own 8 0, .own 9 0, sqA 1 (eI .i64) p.2.2.2.pressures_, .int .i64 p.2.2.2.place_], rowA 0 10 81 qC.enc p.2.2.2.air_.Mine.Roads, rowA 0 4 117 SFan.enc p.2.2.2.air_.Fans, rowA 0 3 91 qD.enc p.2.2.2.air_.Doors, rowA 0 1 3 (eI .i64) p.2.2.2.setting_.Fans, rowA 0 1 3 (eI .i64) p.2.2.2.setting_.Doors])) (fun p => OU p.1 p.2.1 p.2.2.1 p.2.2.2) (fun r => .int .i64 r) (fun ins _ => [dB ins 0, dB ins 1, dB ins 2, dB ins 3, dB ins 4, dB ins 5, dB ins 6, dB ins 7, dB ins 8, dB ins 9])
def Ld : Env := envM [(181, uf.c)] [(2, [1, 5, 6], [5])] [(2, xV.c)] [] [(2, [0, 1, 2, 3, 4, 5, 6, 7, 8, 9])] 10
def aam : Env := { Ld with nt := 26 }
theorem NP : aQ aam (qd 2 Tryz.f174) xV.c := xV.tells 266 (fun _ => by kernel_rfl) (fun _ _ _ _ => by kernel_rfl) (fun _ _ _ _ => by kernel_rfl) fun R f v N K => by kernel_rfl
theorem SI : aI Tryz.prog 174 vX.c := vX.tells Tryz.func174 (show ∀ p, arun Ld Tryz.f174 (vX.enc p).1 (vX.enc p).2 = _ from fun p => by kernel_rfl) (qg [qd 2 Tryz.f174] (by kernel_rfl) ⟨lpT (by kernel_rfl) NP, trivial⟩) (.cons Nf .nil)
def UF (n y0 y1 : Int) (y2 : qM) : Option (Int) := vX.val (n, y0, y1, y2)
theorem af3 (n y0 y1 : Int) (y2 : qM) : UF n y0 y1 y2 = (OU n y0 y1 y2).get := vX.val_eq (fun x => (intA (gd x.1 0), intA (gd (varL (dB x.2 2)) 0), intA (gd (varL (dB x.2 3)) 0), ⟨⟨⟨sqD qA.dec (gd (varL (dB x.2 4)) 0), sqB qC.dec (dB x.2 5)⟩, sqB SFan.dec (dB x.2 6), sqB qD.dec (dB x.2 7)⟩, ⟨sqB dI (dB x.2 8), sqB dI (dB x.2 9)⟩, sqD dI (gd (varL (dB x.2 4)) 6), intA (gd (varL (dB x.2 4)) 7)⟩)) (fun p => by kernel_rfl) (n, y0, y1, y2)
def LW (a : SAir) (s : qz) (pressures : Sq Int) (place step : Int) : DT (Int × Bool) :=
 .bind (Gq a s pressures place) fun z0 =>
 .ite (!z0) (
 .leaf ((0 : Int), false)) (
 .bind (BL a s pressures place) fun z1 =>
 .ite (decide ((0 : Int) ≤ place ∧ place < ((pressures.n : Nat) : Int))) (
 .bind (UF (wr ((wr ((70368744177664 : Int) - (wr (step * (pressures.f (Int.toNat place)))))) + (1 : Int))) (pressures.f (Int.toNat place)) step z1) fun z2 =>
 .ite (decide (z2 > (wr ((70368744177664 : Int) - (wr (step * (pressures.f (Int.toNat place)))))))) (.leaf ((0 : Int), false)) (.leaf ((wr ((pressures.f (Int.toNat place)) + (wr (z2 * step)))), true))) (
 .fail))
def uY : FnM := flM (SAir × qz × (Sq Int) × Int × Int) (Int × Bool) (fun p => ([.agg (SAir.enc p.1), .agg (qz.enc p.2.1), sqA 1 (eI .i64) p.2.2.1, .int .i64 p.2.2.2.1, .int .i64 p.2.2.2.2, .fn 166 []], [])) (fun p => LW p.1 p.2.1 p.2.2.1 p.2.2.2.1 p.2.2.2.2) (fun r => .tup [.int .i64 r.1, .bool r.2]) (fun _ => rfl)
def U2 : Env := envM [(168, tV.c), (169, rC.c), (174, vX.c)] [] [] [] [] 0
theorem PX : aI Tryz.prog 165 uY.c := uY.tells Tryz.func165 (show ∀ p, arun U2 Tryz.f165 (uY.enc p).1 (uY.enc p).2 = _ from fun p => by kernel_rfl) p8 (.cons DC (.cons zh (.cons SI .nil)))
def PV (a : SAir) (s : qz) (pressures : Sq Int) (place step : Int) : Option (Int × Bool) := uY.val (a, s, pressures, place, step)
theorem aeV (a : SAir) (s : qz) (pressures : Sq Int) (place step : Int) : PV a s pressures place step = (LW a s pressures place step).get := uY.val_eq (fun x => (SAir.dec (aggL (gd x.1 0)), qz.dec (aggL (gd x.1 1)), sqD dI (gd x.1 2), intA (gd x.1 3), intA (gd x.1 4))) (fun p => by kernel_rfl) (a, s, pressures, place, step)
def Ky (a : SAir) (s : qz) (pressures : Sq Int) (place : Int) : DT (Int × Bool) :=
 .bind (PV a s pressures place (-1 : Int)) fun z0 =>
 .leaf (z0.1, z0.2)
def uG : FnM := flM (SAir × qz × (Sq Int) × Int) (Int × Bool) (fun p => ([.agg (SAir.enc p.1), .agg (qz.enc p.2.1), sqA 1 (eI .i64) p.2.2.1, .int .i64 p.2.2.2], [])) (fun p => Ky p.1 p.2.1 p.2.2.1 p.2.2.2) (fun r => .tup [.int .i64 r.1, .bool r.2]) (fun _ => rfl)
def RO : Env := envM [(165, uY.c)] [] [] [] [] 0
theorem O3 : aI Tryz.prog 142 uG.c := uG.tells Tryz.func142 (show ∀ p, arun RO Tryz.f142 (uG.enc p).1 (uG.enc p).2 = _ from fun p => by kernel_rfl) p8 (.cons PX .nil)
def N8 (a : SAir) (s : qz) (pressures : Sq Int) (place : Int) : Option (Int × Bool) := uG.val (a, s, pressures, place)
theorem aeD (a : SAir) (s : qz) (pressures : Sq Int) (place : Int) : N8 a s pressures place = (Ky a s pressures place).get := uG.val_eq (fun x => (SAir.dec (aggL (gd x.1 0)), qz.dec (aggL (gd x.1 1)), sqD dI (gd x.1 2), intA (gd x.1 3))) (fun p => by kernel_rfl) (a, s, pressures, place)
def LQ (net : qB) : DT (Bool) :=
 .leaf (decide (net.Low ≥ (0 : Int)))
def uX : FnM := flM (qB) (Bool) (fun p => ([.agg (qB.enc p)], [])) (fun p => LQ p) (fun r => .bool r) (fun _ => rfl)
def UZ : Env := envM [] [] [] [] [] 0
theorem PL : aI Tryz.prog 167 uX.c := uX.tells Tryz.func167 (show ∀ p, arun UZ Tryz.f167 (uX.enc p).1 (uX.enc p).2 = _ from fun p => by kernel_rfl) p8 .nil
def PK (net : qB) : Option (Bool) := uX.val net
theorem aeU (net : qB) : PK net = (LQ net).get := uX.val_eq (fun x => qB.dec (aggL (gd x.1 0))) (fun p => by kernel_rfl) net
def FK (n x x2 : Int) (y0 : qM) : DT (Bool) :=
 .bind (yZ y0 (wr (x + (wr (n * x2))))) fun z0 =>
 .bind (PK z0) fun z1 =>
 .leaf z1
def rY : FnM := nfM (Int × Int × Int × qM) (Bool) (fun p => ([.int .i64 p.1, .ptr 0 0, .ptr 1 0, .ptr 2 0, .ptr 3 0], [.var [.fn 167 []], .var [.ptr 4 0], .var [.int .i64 p.2.1], .var [.int .i64 p.2.2.1], .var [sqA 2 qA.enc p.2.2.2.air_.Mine.Places, .own 5 0, .own 6 0, .own 7 0, .own 8 0, .own 9 0, sqA 1 (eI .i64) p.2.2.2.pressures_, .int .i64 p.2.2.2.place_], rowA 0 10 81 qC.enc p.2.2.2.air_.Mine.Roads, rowA 0 4 117 SFan.enc p.2.2.2.air_.Fans, rowA 0 3 91 qD.enc p.2.2.2.air_.Doors, rowA 0 1 3 (eI .i64) p.2.2.2.setting_.Fans, rowA 0 1 3 (eI .i64) p.2.2.2.setting_.Doors])) (fun p => FK p.1 p.2.1 p.2.2.1 p.2.2.2) (fun r => .bool r) (fun ins _ => [dB ins 0, dB ins 1, dB ins 2, dB ins 3, dB ins 4, dB ins 5, dB ins 6, dB ins 7, dB ins 8, dB ins 9])
def LV : Env := envM [(170, qR.c), (167, uX.c)] [] [] [] [] 10
theorem Kg : aI Tryz.prog 181 rY.c := rY.tells Tryz.func181 (show ∀ p, arun LV Tryz.f181 (rY.enc p).1 (rY.enc p).2 = _ from fun p => by kernel_rfl) p8 (.cons xY (.cons PL .nil))
def H7 (n x x2 : Int) (y0 : qM) : Option (Bool) := rY.val (n, x, x2, y0)
theorem ac3 (n x x2 : Int) (y0 : qM) : H7 n x x2 y0 = (FK n x x2 y0).get := rY.val_eq (fun x => (intA (gd x.1 0), intA (gd (varL (dB x.2 2)) 0), intA (gd (varL (dB x.2 3)) 0), ⟨⟨⟨sqD qA.dec (gd (varL (dB x.2 4)) 0), sqB qC.dec (dB x.2 5)⟩, sqB SFan.dec (dB x.2 6), sqB qD.dec (dB x.2 7)⟩, ⟨sqB dI (dB x.2 8), sqB dI (dB x.2 9)⟩, sqD dI (gd (varL (dB x.2 4)) 6), intA (gd (varL (dB x.2 4)) 7)⟩)) (fun p => by kernel_rfl) (n, x, x2, y0)
def F6 (u2_1 u2_2 : Int) (u2_3 : Sq qA) (u2_4 : Sq Int) (u2_5 : Int) (u2_6 : Sq qC) (u2_7 : Sq SFan) (u2_8 : Sq qD) (u2_9 u2_10 : Sq Int) (u2_0 u2_11 : Int) : DT (LR (Int × Int) (Int) (Unit)) :=
 .ite (decide (u2_11 < u2_0)) (
 .bind (H7 (wr ((IntKind.u64.wrap (wr (u2_11 + u2_0))) / 2 ^ (Int.toNat (1 : Int)))) u2_1 u2_2 (qM.mk (SAir.mk (qI.mk u2_3 u2_6) u2_7 u2_8) (qz.mk u2_9 u2_10) u2_4 u2_5)) fun z0 =>
 .ite (!z0) (
 .leaf (.next (u2_0, (wr ((wr ((IntKind.u64.wrap (wr (u2_11 + u2_0))) / 2 ^ (Int.toNat (1 : Int)))) + (1 : Int)))))) (
 .leaf (.next ((wr ((IntKind.u64.wrap (wr (u2_11 + u2_0))) / 2 ^ (Int.toNat (1 : Int)))), u2_11)))) (
 .leaf (.l u2_11))
def xX : LpM := ⟨Int × Int × (Sq qA) × (Sq Int) × Int × (Sq qC) × (Sq SFan) × (Sq qD) × (Sq Int) × (Sq Int), Int × Int, Int, Unit, fun p => ⟨[(1, .fn 181 [.ptr 0 0, .ptr 1 0, .ptr 2 0, .ptr 3 0]), (5, .int .i64 p.2.2), (6, .int .i64 p.2.1)], [(0, .var [.fn 167 []]), (1, .var [.ptr 4 0]), (2, .var [.int .i64 p.1.1]), (3, .var [.int .i64 p.1.2.1]), (4, .var [sqA 2 qA.enc p.1.2.2.1, .own 5 0, .own 6 0, .own 7 0, .own 8 0, .own 9 0, sqA 1 (eI .i64) p.1.2.2.2.1, .int .i64 p.1.2.2.2.2.1]), (5, rowA 0 10 81 qC.enc p.1.2.2.2.2.2.1), (6, rowA 0 4 117 SFan.enc p.1.2.2.2.2.2.2.1), (7, rowA 0 3 91 qD.enc p.1.2.2.2.2.2.2.2.1), (8, rowA 0 1 3 (eI .i64) p.1.2.2.2.2.2.2.2.2.1), (9, rowA 0 1 3 (eI .i64) p.1.2.2.2.2.2.2.2.2.2)], 266⟩, fun f v => F6 f.1 f.2.1 f.2.2.1 f.2.2.2.1 f.2.2.2.2.1 f.2.2.2.2.2.1 f.2.2.2.2.2.2.1 f.2.2.2.2.2.2.2.1 f.2.2.2.2.2.2.2.2.1 f.2.2.2.2.2.2.2.2.2 v.1 v.2, true, (.exit 0), (fun x a => ⟨[(5, .int .i64 a)], [(0, .var [.fn 167 []]), (1, .var [.ptr 4 0]), (2, blkS x 2), (3, blkS x 3), (4, blkS x 4), (5, blkS x 5), (6, blkS x 6), (7, blkS x 7), (8, blkS x 8), (9, blkS x 9)], 266⟩), .ret, (fun _ _ => ⟨[], [], 0⟩), c1, c1k⟩
def M6 (u2_1 u2_2 : Int) (u2_3 : Sq qA) (u2_4 : Sq Int) (u2_5 : Int) (u2_6 : Sq qC) (u2_7 : Sq SFan) (u2_8 : Sq qD) (u2_9 u2_10 : Sq Int) (u2_0 u2_11 : Int) : Option ((Int) ⊕ (Unit)) := xX.val ((u2_1, u2_2, u2_3, u2_4, u2_5, u2_6, u2_7, u2_8, u2_9, u2_10), (u2_0, u2_11))
theorem aex (u2_1 u2_2 : Int) (u2_3 : Sq qA) (u2_4 : Sq Int) (u2_5 : Int) (u2_6 : Sq qC) (u2_7 : Sq SFan) (u2_8 : Sq qD) (u2_9 u2_10 : Sq Int) (u2_0 u2_11 : Int) : M6 u2_1 u2_2 u2_3 u2_4 u2_5 u2_6 u2_7 u2_8 u2_9 u2_10 u2_0 u2_11 = fixO (fun v : Int × Int => F6 u2_1 u2_2 u2_3 u2_4 u2_5 u2_6 u2_7 u2_8 u2_9 u2_10 v.1 v.2) (u2_0, u2_11) := xX.val_eq (fun x => ((intA (cellS x 2 0), intA (cellS x 3 0), sqD qA.dec (cellS x 4 0), sqD dI (cellS x 4 6), intA (cellS x 4 7), sqB qC.dec (blkS x 5), sqB SFan.dec (blkS x 6), sqB qD.dec (blkS x 7), sqB dI (blkS x 8), sqB dI (blkS x 9)), (intA (aget x.tm 6), intA (aget x.tm 5)))) (fun p => by kernel_rfl) ((u2_1, u2_2, u2_3, u2_4, u2_5, u2_6, u2_7, u2_8, u2_9, u2_10), (u2_0, u2_11))
def OV (n y0 y1 : Int) (y2 : qM) : DT (Int) :=
 .sum (M6 y0 y1 y2.air_.Mine.Places y2.pressures_ y2.place_ y2.air_.Mine.Roads y2.air_.Fans y2.air_.Doors y2.setting_.Fans y2.setting_.Doors n (0 : Int)) (fun y3 =>
 .leaf y3) (fun _ => .fail)
def vY : FnM := nfM (Int × Int × Int × qM) (Int) (fun p => ([.int .i64 p.1, .fn 181 [.ptr 0 0, .ptr 1 0, .ptr 2 0, .ptr 3 0]], [.var [.fn 167 []], .var [.ptr 4 0], .var [.int .i64 p.2.1], .var [.int .i64 p.2.2.1], .var [sqA 2 qA.enc p.2.2.2.air_.Mine.Places, .own 5 0, .own 6 0, .own 7 0, .own 8 0, .own 9 0, sqA 1 (eI .i64) p.2.2.2.pressures_, .int .i64 p.2.2.2.place_], rowA 0 10 81 qC.enc p.2.2.2.air_.Mine.Roads, rowA 0 4 117 SFan.enc p.2.2.2.air_.Fans, rowA 0 3 91 qD.enc p.2.2.2.air_.Doors, rowA 0 1 3 (eI .i64) p.2.2.2.setting_.Fans, rowA 0 1 3 (eI .i64) p.2.2.2.setting_.Doors])) (fun p => OV p.1 p.2.1 p.2.2.1 p.2.2.2) (fun r => .int .i64 r) (fun ins _ => [dB ins 0, dB ins 1, dB ins 2, dB ins 3, dB ins 4, dB ins 5, dB ins 6, dB ins 7, dB ins 8, dB ins 9])
def Le : Env := envM [(181, rY.c)] [(2, [1, 5, 6], [5])] [(2, xX.c)] [] [(2, [0, 1, 2, 3, 4, 5, 6, 7, 8, 9])] 10
def aan : Env := { Le with nt := 26 }
theorem NR : aQ aan (qd 2 Tryz.f174) xX.c := xX.tells 266 (fun _ => by kernel_rfl) (fun _ _ _ _ => by kernel_rfl) (fun _ _ _ _ => by kernel_rfl) fun R f v N K => by kernel_rfl
theorem SK : aI Tryz.prog 174 vY.c := vY.tells Tryz.func174 (show ∀ p, arun Le Tryz.f174 (vY.enc p).1 (vY.enc p).2 = _ from fun p => by kernel_rfl) (qg [qd 2 Tryz.f174] (by kernel_rfl) ⟨lpT (by kernel_rfl) NR, trivial⟩) (.cons Kg .nil)
def UG (n y0 y1 : Int) (y2 : qM) : Option (Int) := vY.val (n, y0, y1, y2)
theorem af4 (n y0 y1 : Int) (y2 : qM) : UG n y0 y1 y2 = (OV n y0 y1 y2).get := vY.val_eq (fun x => (intA (gd x.1 0), intA (gd (varL (dB x.2 2)) 0), intA (gd (varL (dB x.2 3)) 0), ⟨⟨⟨sqD qA.dec (gd (varL (dB x.2 4)) 0), sqB qC.dec (dB x.2 5)⟩, sqB SFan.dec (dB x.2 6), sqB qD.dec (dB x.2 7)⟩, ⟨sqB dI (dB x.2 8), sqB dI (dB x.2 9)⟩, sqD dI (gd (varL (dB x.2 4)) 6), intA (gd (varL (dB x.2 4)) 7)⟩)) (fun p => by kernel_rfl) (n, y0, y1, y2)
def H8 (a : SAir) (s : qz) (pressures : Sq Int) (place step : Int) : DT (Int × Bool) :=
 .bind (Gq a s pressures place) fun z0 =>
 .ite (!z0) (
 .leaf ((0 : Int), false)) (
 .bind (BL a s pressures place) fun z1 =>
 .ite (decide ((0 : Int) ≤ place ∧ place < ((pressures.n : Nat) : Int))) (
 .bind (UG (wr ((wr ((70368744177664 : Int) - (wr (step * (pressures.f (Int.toNat place)))))) + (1 : Int))) (pressures.f (Int.toNat place)) step z1) fun z2 =>
 .ite (decide (z2 > (wr ((70368744177664 : Int) - (wr (step * (pressures.f (Int.toNat place)))))))) (.leaf ((0 : Int), false)) (.leaf ((wr ((pressures.f (Int.toNat place)) + (wr (z2 * step)))), true))) (
 .fail))
def tJ : FnM := flM (SAir × qz × (Sq Int) × Int × Int) (Int × Bool) (fun p => ([.agg (SAir.enc p.1), .agg (qz.enc p.2.1), sqA 1 (eI .i64) p.2.2.1, .int .i64 p.2.2.2.1, .int .i64 p.2.2.2.2, .fn 167 []], [])) (fun p => H8 p.1 p.2.1 p.2.2.1 p.2.2.2.1 p.2.2.2.2) (fun r => .tup [.int .i64 r.1, .bool r.2]) (fun _ => rfl)
def O5 : Env := envM [(168, tV.c), (169, rC.c), (174, vY.c)] [] [] [] [] 0
theorem LX : aI Tryz.prog 165 tJ.c := tJ.tells Tryz.func165 (show ∀ p, arun O5 Tryz.f165 (tJ.enc p).1 (tJ.enc p).2 = _ from fun p => by kernel_rfl) p8 (.cons DC (.cons zh (.cons SK .nil)))
def Kz (a : SAir) (s : qz) (pressures : Sq Int) (place step : Int) : Option (Int × Bool) := tJ.val (a, s, pressures, place, step)
theorem adI (a : SAir) (s : qz) (pressures : Sq Int) (place step : Int) : Kz a s pressures place step = (H8 a s pressures place step).get := tJ.val_eq (fun x => (SAir.dec (aggL (gd x.1 0)), qz.dec (aggL (gd x.1 1)), sqD dI (gd x.1 2), intA (gd x.1 3), intA (gd x.1 4))) (fun p => by kernel_rfl) (a, s, pressures, place, step)
def PU (a : SAir) (s : qz) (pressures : Sq Int) (place : Int) : DT (Int × Bool) :=
 .bind (Kz a s pressures place (1 : Int)) fun z0 =>
 .leaf (z0.1, z0.2)
def wS : FnM := flM (SAir × qz × (Sq Int) × Int) (Int × Bool) (fun p => ([.agg (SAir.enc p.1), .agg (qz.enc p.2.1), sqA 1 (eI .i64) p.2.2.1, .int .i64 p.2.2.2], [])) (fun p => PU p.1 p.2.1 p.2.2.1 p.2.2.2) (fun r => .tup [.int .i64 r.1, .bool r.2]) (fun _ => rfl)
def XZ : Env := envM [(165, tJ.c)] [] [] [] [] 0
theorem U0 : aI Tryz.prog 143 wS.c := wS.tells Tryz.func143 (show ∀ p, arun XZ Tryz.f143 (wS.enc p).1 (wS.enc p).2 = _ from fun p => by kernel_rfl) p8 (.cons LX .nil)
def VY (a : SAir) (s : qz) (pressures : Sq Int) (place : Int) : Option (Int × Bool) := wS.val (a, s, pressures, place)
theorem agc (a : SAir) (s : qz) (pressures : Sq Int) (place : Int) : VY a s pressures place = (PU a s pressures place).get := wS.val_eq (fun x => (SAir.dec (aggL (gd x.1 0)), qz.dec (aggL (gd x.1 1)), sqD dI (gd x.1 2), intA (gd x.1 3))) (fun p => by kernel_rfl) (a, s, pressures, place)
end
end Go.Proofs.YtimkpfnbkclclaaGreat.Ab
namespace Go.Proofs.YtimkpfnbkclclaaGreat.Ab
open Go
theorem apS {i j : Int} (h0 : 0 ≤ i) (h1 : j ≤ 1000000000000000) (h : i < j) : wr ((IntKind.u64.wrap (wr (i + j))) / 2 ^ (Int.toNat (1 : Int))) = (i + j) / 2 := by
  rw [pJ (x := i + j) (by omega) (by omega)]
  have e : IntKind.u64.wrap (i + j) = i + j := by rw [IntKind.wrap_u64]; omega
  rw [e]
  show wr ((i + j) / 2) = _
  exact pJ (by omega) (by omega)
theorem anh (Q : Int → Prop) (N : Int) (hN : 0 ≤ N) (hN2 : N ≤ 1000000000000000) {step : Int × Int → DT (LR (Int × Int) Int Unit)} (hQ : ∀ x y, 0 ≤ x → x ≤ y → y < N → Q x → Q y)
    (hs : ∀ i j, 0 ≤ i → j ≤ N → i < j → (Q ((i + j) / 2) ∧ (step (j, i)).get = some (.next ((i + j) / 2, i))) ∨ (¬ Q ((i + j) / 2) ∧ (step (j, i)).get = some (.next (j, (i + j) / 2 + 1))))
    (hl : ∀ i, (step (i, i)).get = some (.l i)) : ∃ z, fixO step (N, 0) = some (.inl z) ∧ 0 ≤ z ∧ z ≤ N ∧ (∀ x, 0 ≤ x → x < z → ¬ Q x) ∧ (z < N → Q z) := by
  have key := pY (step := step) (fun v => 0 ≤ v.2 ∧ v.2 ≤ v.1 ∧ v.1 ≤ N ∧ (∀ x, 0 ≤ x → x < v.2 → ¬ Q x) ∧ (v.1 < N → Q v.1)) (fun v => (v.1 - v.2).toNat)
    (fun z => ∃ y, z = .inl y ∧ 0 ≤ y ∧ y ≤ N ∧ (∀ x, 0 ≤ x → x < y → ¬ Q x) ∧ (y < N → Q y)) (fun v hv => by
      obtain ⟨j, i⟩ := v
      obtain ⟨h1, h2, h3, h4, h5⟩ := hv
      dsimp only at h1 h2 h3 h4 h5
      by_cases c : i < j
      · rcases hs i j h1 h3 c with ⟨q, e⟩ | ⟨q, e⟩
        · exact ⟨_, e, ⟨h1, by dsimp only; omega, by dsimp only; omega, h4, fun _ => q⟩, by dsimp only; omega⟩
        · refine ⟨_, e, ⟨by dsimp only; omega, by dsimp only; omega, h3, fun x a b hx => ?_, h5⟩, by dsimp only; omega⟩
          dsimp only at b
          exact q (hQ _ _ a (by omega) (by omega) hx)
      · obtain rfl : i = j := by omega
        exact ⟨_, hl i, i, rfl, h1, h3, h4, h5⟩)
    (N, 0) ⟨Int.le_refl _, hN, Int.le_refl _, fun x a b => by dsimp only at b; omega, fun h => absurd h (Int.lt_irrefl _)⟩
  obtain ⟨z, hz, y, rfl, g⟩ := key
  exact ⟨y, hz, g⟩
theorem ami {a : SAir} {s : qz} {P : Sq Int} {pl : Int} {l : Sq Int} {J : qM} (hJ : JnOf a s P pl l J) (ok : RtOK a s) (hP : aiV a P) {own : Int} (o0 : -70368744177664 ≤ own) (o1 : own ≤ 70368744177664) :
    ∃ z, UG ((70368744177664 - own) + 1) own 1 J = some z ∧ 0 ≤ z ∧ z ≤ (70368744177664 - own) + 1 ∧ (∀ x, 0 ≤ x → x < z → ¬ NL a s P pl ((own + x)) ≥ 0) ∧ (z < (70368744177664 - own) + 1 → NL a s P pl ((own + z)) ≥ 0) := by
  obtain ⟨z, e, h⟩ := anh (fun x => NL a s P pl ((own + x)) ≥ 0) ((70368744177664 - own) + 1) (by omega) (by omega) (step := fun v => F6 own 1 J.air_.Mine.Places J.pressures_ J.place_ J.air_.Mine.Roads J.air_.Fans J.air_.Doors J.setting_.Fans J.setting_.Doors v.1 v.2)
    (fun x y h0 hxy hy hx => by
      have := (akT ok P pl (show own + x ≤ own + y by omega)).1
      omega)
    (fun i j h0 h1 hlt => by
      have f1 : H7 ((i + j) / 2) own 1 J = some (decide (NL a s P pl ((own + ((i + j) / 2))) ≥ 0)) := by
        rw [ac3]; unfold FK
        rw [pJ (x := (i + j) / 2 * 1) (by omega) (by omega), show own + (i + j) / 2 * 1 = (own + ((i + j) / 2)) by omega, pJ (by omega) (by omega), get_bind (apr hJ ok hP (by omega) (by omega)),
          get_bind (by rw [aeU]; unfold LQ; rfl)]
        rfl
      dsimp only
      unfold F6
      rw [apS h0 (by omega) hlt, qo (decide_eq_true hlt), get_bind f1]
      by_cases c : NL a s P pl ((own + ((i + j) / 2))) ≥ 0
      · rw [qm (by simp [c])]; exact .inl ⟨c, rfl⟩
      · rw [qo (by simp only [decide_eq_false c, Bool.not_false]), pJ (x := (i + j) / 2 + 1) (by omega) (by omega)]; exact .inr ⟨c, rfl⟩)
    (fun i => by
      dsimp only
      unfold F6
      rw [qm (decide_eq_false (Int.lt_irrefl _))]; rfl)
  refine ⟨z, ?_, h⟩
  rw [af4]; unfold OV
  rw [pV (by rw [aex]; exact e)]; rfl
theorem ak0 {a : SAir} {s : qz} {P : Sq Int} {pl : Int} (h : PrOK a s P pl) : ∃ r, VY a s P pl = some r ∧ ajL (NL a s P pl) (P.f pl.toNat) r := by
  have ok := aiU h.rt
  have p0 := h.p0
  have p1 := h.p1
  have b := h.Pp.f pl.toNat (by omega)
  obtain ⟨l, J, eJ, hJ⟩ := ajG h.rt P pl
  obtain ⟨z, ez, z0, z1, z2, z3⟩ := ami hJ ok h.Pp b.1 b.2
  rcases al4 a s P pl with ⟨_, e⟩ | ⟨n, _⟩
  · have key : ∃ r, Kz a s P pl 1 = some r ∧ ajL (NL a s P pl) (P.f pl.toNat) r := by
      rw [adI]; unfold H8
      rw [pJ (x := 1 * P.f pl.toNat) (by omega) (by omega), show (70368744177664 : Int) - 1 * P.f pl.toNat = (70368744177664 - (P.f pl.toNat)) by omega, pJ (x := (70368744177664 - (P.f pl.toNat))) (by omega) (by omega), pJ (x := (70368744177664 - (P.f pl.toNat)) + 1) (by omega) (by omega), get_bind e, qm (b := !true) rfl, get_bind eJ, qo (decide_eq_true ⟨p0, p1⟩), get_bind ez]
      by_cases c : z > (70368744177664 - (P.f pl.toNat))
      · rw [qo (decide_eq_true c)]
        refine ⟨_, rfl, .inr ⟨rfl, fun x a1 a2 => ?_⟩⟩
        have := z2 ((x - (P.f pl.toNat))) (by omega) (by omega)
        rw [show ((P.f pl.toNat) + ((x - (P.f pl.toNat)))) = x by omega] at this
        omega
      · rw [qm (decide_eq_false c), pJ (x := z * 1) (by omega) (by omega), pJ (by omega) (by omega)]
        refine ⟨_, rfl, .inl ⟨rfl, by dsimp only; omega, by dsimp only; omega, ?_, fun x a1 a2 => ?_⟩⟩
        · have := z3 (by omega)
          dsimp only
          rw [show P.f pl.toNat + z * 1 = ((P.f pl.toNat) + z) by omega]
          exact this
        · dsimp only at a2
          have := z2 ((x - (P.f pl.toNat))) (by omega) (by omega)
          rw [show ((P.f pl.toNat) + ((x - (P.f pl.toNat)))) = x by omega] at this
          omega
    obtain ⟨r, er, hr⟩ := key
    rw [agc]; unfold PU
    rw [get_bind er]
    exact ⟨_, rfl, hr⟩
  · exact absurd h n
theorem amh {a : SAir} {s : qz} {P : Sq Int} {pl : Int} {l : Sq Int} {J : qM} (hJ : JnOf a s P pl l J) (ok : RtOK a s) (hP : aiV a P) {own : Int} (o0 : -70368744177664 ≤ own) (o1 : own ≤ 70368744177664) :
    ∃ z, UF ((own - -70368744177664) + 1) own (-1) J = some z ∧ 0 ≤ z ∧ z ≤ (own - -70368744177664) + 1 ∧ (∀ x, 0 ≤ x → x < z → ¬ NH a s P pl ((own - x)) ≤ 0) ∧ (z < (own - -70368744177664) + 1 → NH a s P pl ((own - z)) ≤ 0) := by
  obtain ⟨z, e, h⟩ := anh (fun x => NH a s P pl ((own - x)) ≤ 0) ((own - -70368744177664) + 1) (by omega) (by omega) (step := fun v => F5 own (-1) J.air_.Mine.Places J.pressures_ J.place_ J.air_.Mine.Roads J.air_.Fans J.air_.Doors J.setting_.Fans J.setting_.Doors v.1 v.2)
    (fun x y h0 hxy hy hx => by
      have := (akT ok P pl (show own - y ≤ own - x by omega)).2
      omega)
    (fun i j h0 h1 hlt => by
      have f1 : LU ((i + j) / 2) own (-1) J = some (decide (NH a s P pl ((own - ((i + j) / 2))) ≤ 0)) := by
        rw [aeh]; unfold Ji
        rw [pJ (x := (i + j) / 2 * (-1)) (by omega) (by omega), show own + (i + j) / 2 * (-1) = (own - ((i + j) / 2)) by omega, pJ (by omega) (by omega), get_bind (apr hJ ok hP (by omega) (by omega)),
          get_bind (by rw [adG]; unfold HZ; rfl)]
        rfl
      dsimp only
      unfold F5
      rw [apS h0 (by omega) hlt, qo (decide_eq_true hlt), get_bind f1]
      by_cases c : NH a s P pl ((own - ((i + j) / 2))) ≤ 0
      · rw [qm (by simp [c])]; exact .inl ⟨c, rfl⟩
      · rw [qo (by simp only [decide_eq_false c, Bool.not_false]), pJ (x := (i + j) / 2 + 1) (by omega) (by omega)]; exact .inr ⟨c, rfl⟩)
    (fun i => by
      dsimp only
      unfold F5
      rw [qm (decide_eq_false (Int.lt_irrefl _))]; rfl)
  refine ⟨z, ?_, h⟩
  rw [af3]; unfold OU
  rw [pV (by rw [aew]; exact e)]; rfl
theorem ake {a : SAir} {s : qz} {P : Sq Int} {pl : Int} (h : PrOK a s P pl) : ∃ r, N8 a s P pl = some r ∧ ai5 (NH a s P pl) (P.f pl.toNat) r := by
  have ok := aiU h.rt
  have p0 := h.p0
  have p1 := h.p1
  have b := h.Pp.f pl.toNat (by omega)
  obtain ⟨l, J, eJ, hJ⟩ := ajG h.rt P pl
  obtain ⟨z, ez, z0, z1, z2, z3⟩ := amh hJ ok h.Pp b.1 b.2
  rcases al4 a s P pl with ⟨_, e⟩ | ⟨n, _⟩
  · have key : ∃ r, PV a s P pl (-1) = some r ∧ ai5 (NH a s P pl) (P.f pl.toNat) r := by
      rw [aeV]; unfold LW
      rw [pJ (x := (-1) * P.f pl.toNat) (by omega) (by omega), show (70368744177664 : Int) - (-1) * P.f pl.toNat = ((P.f pl.toNat) - -70368744177664) by omega, pJ (x := ((P.f pl.toNat) - -70368744177664)) (by omega) (by omega), pJ (x := ((P.f pl.toNat) - -70368744177664) + 1) (by omega) (by omega), get_bind e, qm (b := !true) rfl, get_bind eJ, qo (decide_eq_true ⟨p0, p1⟩), get_bind ez]
      by_cases c : z > ((P.f pl.toNat) - -70368744177664)
      · rw [qo (decide_eq_true c)]
        refine ⟨_, rfl, .inr ⟨rfl, fun x a1 a2 => ?_⟩⟩
        have := z2 (((P.f pl.toNat) - x)) (by omega) (by omega)
        rw [show ((P.f pl.toNat) - (((P.f pl.toNat) - x))) = x by omega] at this
        omega
      · rw [qm (decide_eq_false c), pJ (x := z * (-1)) (by omega) (by omega), pJ (by omega) (by omega)]
        refine ⟨_, rfl, .inl ⟨rfl, by dsimp only; omega, by dsimp only; omega, ?_, fun x a1 a2 => ?_⟩⟩
        · have := z3 (by omega)
          dsimp only
          rw [show P.f pl.toNat + z * (-1) = ((P.f pl.toNat) - z) by omega]
          exact this
        · dsimp only at a2
          have := z2 (((P.f pl.toNat) - x)) (by omega) (by omega)
          rw [show ((P.f pl.toNat) - (((P.f pl.toNat) - x))) = x by omega] at this
          omega
    obtain ⟨r, er, hr⟩ := key
    rw [aeD]; unfold Ky
    rw [get_bind er]
    exact ⟨_, rfl, hr⟩
  · exact absurd h n
end Go.Proofs.YtimkpfnbkclclaaGreat.Ab
