/- Mirrors of code, stage 12. -/
import Derived.Test.YtmfiagdelnddkaaGreatXc
namespace Go.Proofs.YtmfiagdelnddkaaGreat.Ab
noncomputable section
open Go
attribute [local irreducible] arun
def xE (net : aK) : DT (Bool) :=
 .leaf (decide (net.High ≤ (0 : Int)))
def fP : FnM := flM (aK) (Bool) (fun p => ([.agg (aK.enc p)], [])) (fun p => xE p) (fun r => .bool r) (fun _ => rfl)
def KV : Env := envM [] [] [] [] [] 0
theorem GR : aN Tryz.prog 80 fP.c := fP.tells Tryz.func80 (show ∀ p, arun KV Tryz.f80 (fP.enc p).1 (fP.enc p).2 = _ from fun p => by kernel_rfl) aP .nil
def E8 (net : aK) : Option (Bool) := fP.val net
theorem LB (net : aK) : E8 net = (xE net).get := fP.val_eq (fun x => aK.dec (aggL (gd x.1 0))) (fun p => by kernel_rfl) net
def yN (n x x2 : Int) (y0 : aU) : DT (Bool) :=
 .bind (lF y0 (wr (x + (wr (n * x2))))) fun z0 =>
 .bind (E8 z0) fun z1 =>
 .leaf z1
def iA : FnM := nfM (Int × Int × Int × aU) (Bool) (fun p => ([.int .i64 p.1, .ptr 0 0, .ptr 1 0, .ptr 2 0, .ptr 3 0], [.var [.fn 80 []], .var [.ptr 4 0], .var [.int .i64 p.2.1], .var [.int .i64 p.2.2.1], .var [sqA 2 ay.enc p.2.2.2.air_.Mine.Places, .own 5 0, .own 6 0, .own 7 0, .own 8 0, .own 9 0, sqA 1 (eI .i64) p.2.2.2.pressures_, .int .i64 p.2.2.2.place_], rowA 0 10 70 aB.enc p.2.2.2.air_.Mine.Roads, rowA 0 4 73 SFan.enc p.2.2.2.air_.Fans, rowA 0 3 91 aC.enc p.2.2.2.air_.Doors, rowA 0 1 3 (eI .i64) p.2.2.2.setting_.Fans, rowA 0 1 3 (eI .i64) p.2.2.2.setting_.Doors])) (fun p => yN p.1 p.2.1 p.2.2.1 p.2.2.2) (fun r => .bool r) (fun ins _ => [dB ins 0, dB ins 1, dB ins 2, dB ins 3, dB ins 4, dB ins 5, dB ins 6, dB ins 7, dB ins 8, dB ins 9])
def LH : Env := envM [(46, bE.c), (80, fP.c)] [] [] [] [] 10
theorem IC : aN Tryz.prog 94 iA.c := iA.tells Tryz.func94 (show ∀ p, arun LH Tryz.f94 (iA.enc p).1 (iA.enc p).2 = _ from fun p => by kernel_rfl) aP (.cons nZ (.cons GR .nil))
def Am (n x x2 : Int) (y0 : aU) : Option (Bool) := iA.val (n, x, x2, y0)
theorem Oy (n x x2 : Int) (y0 : aU) : Am n x x2 y0 = (yN n x x2 y0).get := iA.val_eq (fun x => (intA (gd x.1 0), intA (gd (varL (dB x.2 2)) 0), intA (gd (varL (dB x.2 3)) 0), ⟨⟨⟨sqD ay.dec (gd (varL (dB x.2 4)) 0), sqB aB.dec (dB x.2 5)⟩, sqB SFan.dec (dB x.2 6), sqB aC.dec (dB x.2 7)⟩, ⟨sqB dI (dB x.2 8), sqB dI (dB x.2 9)⟩, sqD dI (gd (varL (dB x.2 4)) 6), intA (gd (varL (dB x.2 4)) 7)⟩)) (fun p => by kernel_rfl) (n, x, x2, y0)
def jK (u2_1 u2_2 : Int) (u2_3 : Sq ay) (u2_4 : Sq Int) (u2_5 : Int) (u2_6 : Sq aB) (u2_7 : Sq SFan) (u2_8 : Sq aC) (u2_9 u2_10 : Sq Int) (u2_0 u2_11 : Int) : DT (LR (Int × Int) (Int) (Unit)) :=
 .ite (decide (u2_11 < u2_0)) (
 .bind (Am (wr ((IntKind.u64.wrap (wr (u2_11 + u2_0))) / 2 ^ (Int.toNat (1 : Int)))) u2_1 u2_2 (aU.mk (SAir.mk (aL.mk u2_3 u2_6) u2_7 u2_8) (au.mk u2_9 u2_10) u2_4 u2_5)) fun z0 =>
 .ite (!z0) (
 .leaf (.next (u2_0, (wr ((wr ((IntKind.u64.wrap (wr (u2_11 + u2_0))) / 2 ^ (Int.toNat (1 : Int)))) + (1 : Int)))))) (
 .leaf (.next ((wr ((IntKind.u64.wrap (wr (u2_11 + u2_0))) / 2 ^ (Int.toNat (1 : Int)))), u2_11)))) (
 .leaf (.l u2_11))
def nP : LpM := ⟨Int × Int × (Sq ay) × (Sq Int) × Int × (Sq aB) × (Sq SFan) × (Sq aC) × (Sq Int) × (Sq Int), Int × Int, Int, Unit, fun p => ⟨[(1, .fn 94 [.ptr 0 0, .ptr 1 0, .ptr 2 0, .ptr 3 0]), (5, .int .i64 p.2.2), (6, .int .i64 p.2.1)], [(0, .var [.fn 80 []]), (1, .var [.ptr 4 0]), (2, .var [.int .i64 p.1.1]), (3, .var [.int .i64 p.1.2.1]), (4, .var [sqA 2 ay.enc p.1.2.2.1, .own 5 0, .own 6 0, .own 7 0, .own 8 0, .own 9 0, sqA 1 (eI .i64) p.1.2.2.2.1, .int .i64 p.1.2.2.2.2.1]), (5, rowA 0 10 70 aB.enc p.1.2.2.2.2.2.1), (6, rowA 0 4 73 SFan.enc p.1.2.2.2.2.2.2.1), (7, rowA 0 3 91 aC.enc p.1.2.2.2.2.2.2.2.1), (8, rowA 0 1 3 (eI .i64) p.1.2.2.2.2.2.2.2.2.1), (9, rowA 0 1 3 (eI .i64) p.1.2.2.2.2.2.2.2.2.2)], 266⟩, fun f v => jK f.1 f.2.1 f.2.2.1 f.2.2.2.1 f.2.2.2.2.1 f.2.2.2.2.2.1 f.2.2.2.2.2.2.1 f.2.2.2.2.2.2.2.1 f.2.2.2.2.2.2.2.2.1 f.2.2.2.2.2.2.2.2.2 v.1 v.2, true, (.exit 0), (fun x a => ⟨[(5, .int .i64 a)], [(0, .var [.fn 80 []]), (1, .var [.ptr 4 0]), (2, blkS x 2), (3, blkS x 3), (4, blkS x 4), (5, blkS x 5), (6, blkS x 6), (7, blkS x 7), (8, blkS x 8), (9, blkS x 9)], 266⟩), .ret, (fun _ _ => ⟨[], [], 0⟩), c1, c1k⟩
def Ik (u2_1 u2_2 : Int) (u2_3 : Sq ay) (u2_4 : Sq Int) (u2_5 : Int) (u2_6 : Sq aB) (u2_7 : Sq SFan) (u2_8 : Sq aC) (u2_9 u2_10 : Sq Int) (u2_0 u2_11 : Int) : Option ((Int) ⊕ (Unit)) := nP.val ((u2_1, u2_2, u2_3, u2_4, u2_5, u2_6, u2_7, u2_8, u2_9, u2_10), (u2_0, u2_11))
theorem Ph (u2_1 u2_2 : Int) (u2_3 : Sq ay) (u2_4 : Sq Int) (u2_5 : Int) (u2_6 : Sq aB) (u2_7 : Sq SFan) (u2_8 : Sq aC) (u2_9 u2_10 : Sq Int) (u2_0 u2_11 : Int) : Ik u2_1 u2_2 u2_3 u2_4 u2_5 u2_6 u2_7 u2_8 u2_9 u2_10 u2_0 u2_11 = fixO (fun v : Int × Int => jK u2_1 u2_2 u2_3 u2_4 u2_5 u2_6 u2_7 u2_8 u2_9 u2_10 v.1 v.2) (u2_0, u2_11) := nP.val_eq (fun x => ((intA (cellS x 2 0), intA (cellS x 3 0), sqD ay.dec (cellS x 4 0), sqD dI (cellS x 4 6), intA (cellS x 4 7), sqB aB.dec (blkS x 5), sqB SFan.dec (blkS x 6), sqB aC.dec (blkS x 7), sqB dI (blkS x 8), sqB dI (blkS x 9)), (intA (aget x.tm 6), intA (aget x.tm 5)))) (fun p => by kernel_rfl) ((u2_1, u2_2, u2_3, u2_4, u2_5, u2_6, u2_7, u2_8, u2_9, u2_10), (u2_0, u2_11))
def Ch (n y0 y1 : Int) (y2 : aU) : DT (Int) :=
 .sum (Ik y0 y1 y2.air_.Mine.Places y2.pressures_ y2.place_ y2.air_.Mine.Roads y2.air_.Fans y2.air_.Doors y2.setting_.Fans y2.setting_.Doors n (0 : Int)) (fun y3 =>
 .leaf y3) (fun _ => .fail)
def lC : FnM := nfM (Int × Int × Int × aU) (Int) (fun p => ([.int .i64 p.1, .fn 94 [.ptr 0 0, .ptr 1 0, .ptr 2 0, .ptr 3 0]], [.var [.fn 80 []], .var [.ptr 4 0], .var [.int .i64 p.2.1], .var [.int .i64 p.2.2.1], .var [sqA 2 ay.enc p.2.2.2.air_.Mine.Places, .own 5 0, .own 6 0, .own 7 0, .own 8 0, .own 9 0, sqA 1 (eI .i64) p.2.2.2.pressures_, .int .i64 p.2.2.2.place_], rowA 0 10 70 aB.enc p.2.2.2.air_.Mine.Roads, rowA 0 4 73 SFan.enc p.2.2.2.air_.Fans, rowA 0 3 91 aC.enc p.2.2.2.air_.Doors, rowA 0 1 3 (eI .i64) p.2.2.2.setting_.Fans, rowA 0 1 3 (eI .i64) p.2.2.2.setting_.Doors])) (fun p => Ch p.1 p.2.1 p.2.2.1 p.2.2.2) (fun r => .int .i64 r) (fun ins _ => [dB ins 0, dB ins 1, dB ins 2, dB ins 3, dB ins 4, dB ins 5, dB ins 6, dB ins 7, dB ins 8, dB ins 9])
def FH : Env := envM [(94, iA.c)] [(2, [1, 5, 6], [5])] [(2, nP.c)] [] [(2, [0, 1, 2, 3, 4, 5, 6, 7, 8, 9])] 10
def XK : Env := { FH with nt := 26 }
theorem Kk : aG XK (aH 2 Tryz.f93) nP.c := nP.tells 266 (fun _ => by kernel_rfl) (fun _ _ _ _ => by kernel_rfl) (fun _ _ _ _ => by kernel_rfl) fun R f v N K => by kernel_rfl
theorem Pj : aN Tryz.prog 93 lC.c := lC.tells Tryz.func93 (show ∀ p, arun FH Tryz.f93 (lC.enc p).1 (lC.enc p).2 = _ from fun p => by kernel_rfl) (bf [aH 2 Tryz.f93] (by kernel_rfl) ⟨lpT (by kernel_rfl) Kk, trivial⟩) (.cons IC .nil)
def GI (n y0 y1 : Int) (y2 : aU) : Option (Int) := lC.val (n, y0, y1, y2)
theorem VK (n y0 y1 : Int) (y2 : aU) : GI n y0 y1 y2 = (Ch n y0 y1 y2).get := lC.val_eq (fun x => (intA (gd x.1 0), intA (gd (varL (dB x.2 2)) 0), intA (gd (varL (dB x.2 3)) 0), ⟨⟨⟨sqD ay.dec (gd (varL (dB x.2 4)) 0), sqB aB.dec (dB x.2 5)⟩, sqB SFan.dec (dB x.2 6), sqB aC.dec (dB x.2 7)⟩, ⟨sqB dI (dB x.2 8), sqB dI (dB x.2 9)⟩, sqD dI (gd (varL (dB x.2 4)) 6), intA (gd (varL (dB x.2 4)) 7)⟩)) (fun p => by kernel_rfl) (n, y0, y1, y2)
def Ao (a : SAir) (s : au) (pressures : Sq Int) (place step : Int) : DT (Int × Bool) :=
 .bind (uJ a s pressures place) fun z0 =>
 .ite (!z0) (
 .leaf ((0 : Int), false)) (
 .bind (oJ a s pressures place) fun z1 =>
 .ite (decide ((0 : Int) ≤ place ∧ place < ((pressures.n : Nat) : Int))) (
 .bind (GI (wr ((wr ((70368744177664 : Int) - (wr (step * (pressures.f (Int.toNat place)))))) + (1 : Int))) (pressures.f (Int.toNat place)) step z1) fun z2 =>
 .ite (decide (z2 > (wr ((70368744177664 : Int) - (wr (step * (pressures.f (Int.toNat place)))))))) (.leaf ((0 : Int), false)) (.leaf ((wr ((pressures.f (Int.toNat place)) + (wr (z2 * step)))), true))) (
 .fail))
def jN : FnM := flM (SAir × au × (Sq Int) × Int × Int) (Int × Bool) (fun p => ([.agg (SAir.enc p.1), .agg (au.enc p.2.1), sqA 1 (eI .i64) p.2.2.1, .int .i64 p.2.2.2.1, .int .i64 p.2.2.2.2, .fn 80 []], [])) (fun p => Ao p.1 p.2.1 p.2.2.1 p.2.2.2.1 p.2.2.2.2) (fun r => .tup [.int .i64 r.1, .bool r.2]) (fun _ => rfl)
def Qs : Env := envM [(44, gX.c), (45, bV.c), (93, lC.c)] [] [] [] [] 0
theorem LJ : aN Tryz.prog 73 jN.c := jN.tells Tryz.func73 (show ∀ p, arun Qs Tryz.f73 (jN.enc p).1 (jN.enc p).2 = _ from fun p => by kernel_rfl) aP (.cons xK (.cons qE (.cons Pj .nil)))
def Dm (a : SAir) (s : au) (pressures : Sq Int) (place step : Int) : Option (Int × Bool) := jN.val (a, s, pressures, place, step)
theorem RL (a : SAir) (s : au) (pressures : Sq Int) (place step : Int) : Dm a s pressures place step = (Ao a s pressures place step).get := jN.val_eq (fun x => (SAir.dec (aggL (gd x.1 0)), au.dec (aggL (gd x.1 1)), sqD dI (gd x.1 2), intA (gd x.1 3), intA (gd x.1 4))) (fun p => by kernel_rfl) (a, s, pressures, place, step)
def zC (a : SAir) (s : au) (pressures : Sq Int) (place : Int) : DT (Int × Bool) :=
 .bind (Dm a s pressures place (-1 : Int)) fun z0 =>
 .leaf (z0.1, z0.2)
def iU : FnM := flM (SAir × au × (Sq Int) × Int) (Int × Bool) (fun p => ([.agg (SAir.enc p.1), .agg (au.enc p.2.1), sqA 1 (eI .i64) p.2.2.1, .int .i64 p.2.2.2], [])) (fun p => zC p.1 p.2.1 p.2.2.1 p.2.2.2) (fun r => .tup [.int .i64 r.1, .bool r.2]) (fun _ => rfl)
def Ox : Env := envM [(73, jN.c)] [] [] [] [] 0
theorem KW : aN Tryz.prog 60 iU.c := iU.tells Tryz.func60 (show ∀ p, arun Ox Tryz.f60 (iU.enc p).1 (iU.enc p).2 = _ from fun p => by kernel_rfl) aP (.cons LJ .nil)
def BF (a : SAir) (s : au) (pressures : Sq Int) (place : Int) : Option (Int × Bool) := iU.val (a, s, pressures, place)
theorem Qo (a : SAir) (s : au) (pressures : Sq Int) (place : Int) : BF a s pressures place = (zC a s pressures place).get := iU.val_eq (fun x => (SAir.dec (aggL (gd x.1 0)), au.dec (aggL (gd x.1 1)), sqD dI (gd x.1 2), intA (gd x.1 3))) (fun p => by kernel_rfl) (a, s, pressures, place)
def Al (net : aK) : DT (Bool) :=
 .leaf (decide (net.Low ≥ (0 : Int)))
def jM : FnM := flM (aK) (Bool) (fun p => ([.agg (aK.enc p)], [])) (fun p => Al p) (fun r => .bool r) (fun _ => rfl)
def Qq : Env := envM [] [] [] [] [] 0
theorem LD : aN Tryz.prog 74 jM.c := jM.tells Tryz.func74 (show ∀ p, arun Qq Tryz.f74 (jM.enc p).1 (jM.enc p).2 = _ from fun p => by kernel_rfl) aP .nil
def LC (net : aK) : Option (Bool) := jM.val net
theorem RJ (net : aK) : LC net = (Al net).get := jM.val_eq (fun x => aK.dec (aggL (gd x.1 0))) (fun p => by kernel_rfl) net
def uO (n x x2 : Int) (y0 : aU) : DT (Bool) :=
 .bind (lF y0 (wr (x + (wr (n * x2))))) fun z0 =>
 .bind (LC z0) fun z1 =>
 .leaf z1
def dY : FnM := nfM (Int × Int × Int × aU) (Bool) (fun p => ([.int .i64 p.1, .ptr 0 0, .ptr 1 0, .ptr 2 0, .ptr 3 0], [.var [.fn 74 []], .var [.ptr 4 0], .var [.int .i64 p.2.1], .var [.int .i64 p.2.2.1], .var [sqA 2 ay.enc p.2.2.2.air_.Mine.Places, .own 5 0, .own 6 0, .own 7 0, .own 8 0, .own 9 0, sqA 1 (eI .i64) p.2.2.2.pressures_, .int .i64 p.2.2.2.place_], rowA 0 10 70 aB.enc p.2.2.2.air_.Mine.Roads, rowA 0 4 73 SFan.enc p.2.2.2.air_.Fans, rowA 0 3 91 aC.enc p.2.2.2.air_.Doors, rowA 0 1 3 (eI .i64) p.2.2.2.setting_.Fans, rowA 0 1 3 (eI .i64) p.2.2.2.setting_.Doors])) (fun p => uO p.1 p.2.1 p.2.2.1 p.2.2.2) (fun r => .bool r) (fun ins _ => [dB ins 0, dB ins 1, dB ins 2, dB ins 3, dB ins 4, dB ins 5, dB ins 6, dB ins 7, dB ins 8, dB ins 9])
def GX : Env := envM [(46, bE.c), (74, jM.c)] [] [] [] [] 10
theorem EF : aN Tryz.prog 94 dY.c := dY.tells Tryz.func94 (show ∀ p, arun GX Tryz.f94 (dY.enc p).1 (dY.enc p).2 = _ from fun p => by kernel_rfl) aP (.cons nZ (.cons LD .nil))
def xI (n x x2 : Int) (y0 : aU) : Option (Bool) := dY.val (n, x, x2, y0)
theorem IE (n x x2 : Int) (y0 : aU) : xI n x x2 y0 = (uO n x x2 y0).get := dY.val_eq (fun x => (intA (gd x.1 0), intA (gd (varL (dB x.2 2)) 0), intA (gd (varL (dB x.2 3)) 0), ⟨⟨⟨sqD ay.dec (gd (varL (dB x.2 4)) 0), sqB aB.dec (dB x.2 5)⟩, sqB SFan.dec (dB x.2 6), sqB aC.dec (dB x.2 7)⟩, ⟨sqB dI (dB x.2 8), sqB dI (dB x.2 9)⟩, sqD dI (gd (varL (dB x.2 4)) 6), intA (gd (varL (dB x.2 4)) 7)⟩)) (fun p => by kernel_rfl) (n, x, x2, y0)
def jL (u2_1 u2_2 : Int) (u2_3 : Sq ay) (u2_4 : Sq Int) (u2_5 : Int) (u2_6 : Sq aB) (u2_7 : Sq SFan) (u2_8 : Sq aC) (u2_9 u2_10 : Sq Int) (u2_0 u2_11 : Int) : DT (LR (Int × Int) (Int) (Unit)) :=
 .ite (decide (u2_11 < u2_0)) (
 .bind (xI (wr ((IntKind.u64.wrap (wr (u2_11 + u2_0))) / 2 ^ (Int.toNat (1 : Int)))) u2_1 u2_2 (aU.mk (SAir.mk (aL.mk u2_3 u2_6) u2_7 u2_8) (au.mk u2_9 u2_10) u2_4 u2_5)) fun z0 =>
 .ite (!z0) (
 .leaf (.next (u2_0, (wr ((wr ((IntKind.u64.wrap (wr (u2_11 + u2_0))) / 2 ^ (Int.toNat (1 : Int)))) + (1 : Int)))))) (
 .leaf (.next ((wr ((IntKind.u64.wrap (wr (u2_11 + u2_0))) / 2 ^ (Int.toNat (1 : Int)))), u2_11)))) (
 .leaf (.l u2_11))
def nQ : LpM := ⟨Int × Int × (Sq ay) × (Sq Int) × Int × (Sq aB) × (Sq SFan) × (Sq aC) × (Sq Int) × (Sq Int), Int × Int, Int, Unit, fun p => ⟨[(1, .fn 94 [.ptr 0 0, .ptr 1 0, .ptr 2 0, .ptr 3 0]), (5, .int .i64 p.2.2), (6, .int .i64 p.2.1)], [(0, .var [.fn 74 []]), (1, .var [.ptr 4 0]), (2, .var [.int .i64 p.1.1]), (3, .var [.int .i64 p.1.2.1]), (4, .var [sqA 2 ay.enc p.1.2.2.1, .own 5 0, .own 6 0, .own 7 0, .own 8 0, .own 9 0, sqA 1 (eI .i64) p.1.2.2.2.1, .int .i64 p.1.2.2.2.2.1]), (5, rowA 0 10 70 aB.enc p.1.2.2.2.2.2.1), (6, rowA 0 4 73 SFan.enc p.1.2.2.2.2.2.2.1), (7, rowA 0 3 91 aC.enc p.1.2.2.2.2.2.2.2.1), (8, rowA 0 1 3 (eI .i64) p.1.2.2.2.2.2.2.2.2.1), (9, rowA 0 1 3 (eI .i64) p.1.2.2.2.2.2.2.2.2.2)], 266⟩, fun f v => jL f.1 f.2.1 f.2.2.1 f.2.2.2.1 f.2.2.2.2.1 f.2.2.2.2.2.1 f.2.2.2.2.2.2.1 f.2.2.2.2.2.2.2.1 f.2.2.2.2.2.2.2.2.1 f.2.2.2.2.2.2.2.2.2 v.1 v.2, true, (.exit 0), (fun x a => ⟨[(5, .int .i64 a)], [(0, .var [.fn 74 []]), (1, .var [.ptr 4 0]), (2, blkS x 2), (3, blkS x 3), (4, blkS x 4), (5, blkS x 5), (6, blkS x 6), (7, blkS x 7), (8, blkS x 8), (9, blkS x 9)], 266⟩), .ret, (fun _ _ => ⟨[], [], 0⟩), c1, c1k⟩
def Il (u2_1 u2_2 : Int) (u2_3 : Sq ay) (u2_4 : Sq Int) (u2_5 : Int) (u2_6 : Sq aB) (u2_7 : Sq SFan) (u2_8 : Sq aC) (u2_9 u2_10 : Sq Int) (u2_0 u2_11 : Int) : Option ((Int) ⊕ (Unit)) := nQ.val ((u2_1, u2_2, u2_3, u2_4, u2_5, u2_6, u2_7, u2_8, u2_9, u2_10), (u2_0, u2_11))
theorem Pk (u2_1 u2_2 : Int) (u2_3 : Sq ay) (u2_4 : Sq Int) (u2_5 : Int) (u2_6 : Sq aB) (u2_7 : Sq SFan) (u2_8 : Sq aC) (u2_9 u2_10 : Sq Int) (u2_0 u2_11 : Int) : Il u2_1 u2_2 u2_3 u2_4 u2_5 u2_6 u2_7 u2_8 u2_9 u2_10 u2_0 u2_11 = fixO (fun v : Int × Int => jL u2_1 u2_2 u2_3 u2_4 u2_5 u2_6 u2_7 u2_8 u2_9 u2_10 v.1 v.2) (u2_0, u2_11) := nQ.val_eq (fun x => ((intA (cellS x 2 0), intA (cellS x 3 0), sqD ay.dec (cellS x 4 0), sqD dI (cellS x 4 6), intA (cellS x 4 7), sqB aB.dec (blkS x 5), sqB SFan.dec (blkS x 6), sqB aC.dec (blkS x 7), sqB dI (blkS x 8), sqB dI (blkS x 9)), (intA (aget x.tm 6), intA (aget x.tm 5)))) (fun p => by kernel_rfl) ((u2_1, u2_2, u2_3, u2_4, u2_5, u2_6, u2_7, u2_8, u2_9, u2_10), (u2_0, u2_11))
def Ci (n y0 y1 : Int) (y2 : aU) : DT (Int) :=
 .sum (Il y0 y1 y2.air_.Mine.Places y2.pressures_ y2.place_ y2.air_.Mine.Roads y2.air_.Fans y2.air_.Doors y2.setting_.Fans y2.setting_.Doors n (0 : Int)) (fun y3 =>
 .leaf y3) (fun _ => .fail)
def lD : FnM := nfM (Int × Int × Int × aU) (Int) (fun p => ([.int .i64 p.1, .fn 94 [.ptr 0 0, .ptr 1 0, .ptr 2 0, .ptr 3 0]], [.var [.fn 74 []], .var [.ptr 4 0], .var [.int .i64 p.2.1], .var [.int .i64 p.2.2.1], .var [sqA 2 ay.enc p.2.2.2.air_.Mine.Places, .own 5 0, .own 6 0, .own 7 0, .own 8 0, .own 9 0, sqA 1 (eI .i64) p.2.2.2.pressures_, .int .i64 p.2.2.2.place_], rowA 0 10 70 aB.enc p.2.2.2.air_.Mine.Roads, rowA 0 4 73 SFan.enc p.2.2.2.air_.Fans, rowA 0 3 91 aC.enc p.2.2.2.air_.Doors, rowA 0 1 3 (eI .i64) p.2.2.2.setting_.Fans, rowA 0 1 3 (eI .i64) p.2.2.2.setting_.Doors])) (fun p => Ci p.1 p.2.1 p.2.2.1 p.2.2.2) (fun r => .int .i64 r) (fun ins _ => [dB ins 0, dB ins 1, dB ins 2, dB ins 3, dB ins 4, dB ins 5, dB ins 6, dB ins 7, dB ins 8, dB ins 9])
def FI : Env := envM [(94, dY.c)] [(2, [1, 5, 6], [5])] [(2, nQ.c)] [] [(2, [0, 1, 2, 3, 4, 5, 6, 7, 8, 9])] 10
def XL : Env := { FI with nt := 26 }
theorem Kl : aG XL (aH 2 Tryz.f93) nQ.c := nQ.tells 266 (fun _ => by kernel_rfl) (fun _ _ _ _ => by kernel_rfl) (fun _ _ _ _ => by kernel_rfl) fun R f v N K => by kernel_rfl
theorem Pn : aN Tryz.prog 93 lD.c := lD.tells Tryz.func93 (show ∀ p, arun FI Tryz.f93 (lD.enc p).1 (lD.enc p).2 = _ from fun p => by kernel_rfl) (bf [aH 2 Tryz.f93] (by kernel_rfl) ⟨lpT (by kernel_rfl) Kl, trivial⟩) (.cons EF .nil)
def GJ (n y0 y1 : Int) (y2 : aU) : Option (Int) := lD.val (n, y0, y1, y2)
theorem VL (n y0 y1 : Int) (y2 : aU) : GJ n y0 y1 y2 = (Ci n y0 y1 y2).get := lD.val_eq (fun x => (intA (gd x.1 0), intA (gd (varL (dB x.2 2)) 0), intA (gd (varL (dB x.2 3)) 0), ⟨⟨⟨sqD ay.dec (gd (varL (dB x.2 4)) 0), sqB aB.dec (dB x.2 5)⟩, sqB SFan.dec (dB x.2 6), sqB aC.dec (dB x.2 7)⟩, ⟨sqB dI (dB x.2 8), sqB dI (dB x.2 9)⟩, sqD dI (gd (varL (dB x.2 4)) 6), intA (gd (varL (dB x.2 4)) 7)⟩)) (fun p => by kernel_rfl) (n, y0, y1, y2)
def xJ (a : SAir) (s : au) (pressures : Sq Int) (place step : Int) : DT (Int × Bool) :=
 .bind (uJ a s pressures place) fun z0 =>
 .ite (!z0) (
 .leaf ((0 : Int), false)) (
 .bind (oJ a s pressures place) fun z1 =>
 .ite (decide ((0 : Int) ≤ place ∧ place < ((pressures.n : Nat) : Int))) (
 .bind (GJ (wr ((wr ((70368744177664 : Int) - (wr (step * (pressures.f (Int.toNat place)))))) + (1 : Int))) (pressures.f (Int.toNat place)) step z1) fun z2 =>
 .ite (decide (z2 > (wr ((70368744177664 : Int) - (wr (step * (pressures.f (Int.toNat place)))))))) (.leaf ((0 : Int), false)) (.leaf ((wr ((pressures.f (Int.toNat place)) + (wr (z2 * step)))), true))) (
 .fail))
def fQ : FnM := flM (SAir × au × (Sq Int) × Int × Int) (Int × Bool) (fun p => ([.agg (SAir.enc p.1), .agg (au.enc p.2.1), sqA 1 (eI .i64) p.2.2.1, .int .i64 p.2.2.2.1, .int .i64 p.2.2.2.2, .fn 74 []], [])) (fun p => xJ p.1 p.2.1 p.2.2.1 p.2.2.2.1 p.2.2.2.2) (fun r => .tup [.int .i64 r.1, .bool r.2]) (fun _ => rfl)
def KY : Env := envM [(44, gX.c), (45, bV.c), (93, lD.c)] [] [] [] [] 0
theorem GY : aN Tryz.prog 73 fQ.c := fQ.tells Tryz.func73 (show ∀ p, arun KY Tryz.f73 (fQ.enc p).1 (fQ.enc p).2 = _ from fun p => by kernel_rfl) aP (.cons xK (.cons qE (.cons Pn .nil)))
def zD (a : SAir) (s : au) (pressures : Sq Int) (place step : Int) : Option (Int × Bool) := fQ.val (a, s, pressures, place, step)
theorem LK (a : SAir) (s : au) (pressures : Sq Int) (place step : Int) : zD a s pressures place step = (xJ a s pressures place step).get := fQ.val_eq (fun x => (SAir.dec (aggL (gd x.1 0)), au.dec (aggL (gd x.1 1)), sqD dI (gd x.1 2), intA (gd x.1 3), intA (gd x.1 4))) (fun p => by kernel_rfl) (a, s, pressures, place, step)
def Di (a : SAir) (s : au) (pressures : Sq Int) (place : Int) : DT (Int × Bool) :=
 .bind (zD a s pressures place (1 : Int)) fun z0 =>
 .leaf (z0.1, z0.2)
def mO : FnM := flM (SAir × au × (Sq Int) × Int) (Int × Bool) (fun p => ([.agg (SAir.enc p.1), .agg (au.enc p.2.1), sqA 1 (eI .i64) p.2.2.1, .int .i64 p.2.2.2], [])) (fun p => Di p.1 p.2.1 p.2.2.1 p.2.2.2) (fun r => .tup [.int .i64 r.1, .bool r.2]) (fun _ => rfl)
def Ul : Env := envM [(73, fQ.c)] [] [] [] [] 0
theorem Qr : aN Tryz.prog 55 mO.c := mO.tells Tryz.func55 (show ∀ p, arun Ul Tryz.f55 (mO.enc p).1 (mO.enc p).2 = _ from fun p => by kernel_rfl) aP (.cons GY .nil)
def Iw (a : SAir) (s : au) (pressures : Sq Int) (place : Int) : Option (Int × Bool) := mO.val (a, s, pressures, place)
theorem Wv (a : SAir) (s : au) (pressures : Sq Int) (place : Int) : Iw a s pressures place = (Di a s pressures place).get := mO.val_eq (fun x => (SAir.dec (aggL (gd x.1 0)), au.dec (aggL (gd x.1 1)), sqD dI (gd x.1 2), intA (gd x.1 3))) (fun p => by kernel_rfl) (a, s, pressures, place)
end
end Go.Proofs.YtmfiagdelnddkaaGreat.Ab
