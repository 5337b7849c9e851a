/- A part of the proof, what is needed of it. -/
import Derived.Test.YtimkpfnbkclclaaGreatPk21
namespace Go.Proofs.YtimkpfnbkclclaaGreat.Ab
noncomputable section
open Go
attribute [local irreducible] arun
def OO : DT (qB) :=
 .leaf (qB.mk (-1125899906842624 : Int) (1125899906842624 : Int))
def tY : FnM := flM (Unit) (qB) (fun _ => ([], [])) (fun _ => OO) (fun r => .agg (qB.enc r)) (fun _ => rfl)
def XH : Env := envM [] [] [] [] [] 0
theorem DI : aI Tryz.prog 70 tY.c := tY.tells Tryz.func70 (show ∀ p, arun XH Tryz.f70 (tY.enc p).1 (tY.enc p).2 = _ from fun p => by kernel_rfl) p8 .nil
def uE : Option (qB) := tY.val ()
theorem afZ : uE = (OO).get := tY.val_eq (fun _ => ()) (fun p => by kernel_rfl) ()
def Ev (u3_0 : Sq qC) (u3_2 : Sq qB) (u3_3 : Int) : DT (LR ((Sq qB) × Int) ((Sq qB)) (Unit)) :=
 .ite (decide (u3_3 < ((u3_0.n : Nat) : Int))) (
 .ite (decide ((0 : Int) ≤ u3_3 ∧ u3_3 < ((u3_0.n : Nat) : Int))) (
 .ite (!(u3_0.f (Int.toNat u3_3)).Closed) (
 .bind (uE) fun z0 =>
 .ite (decide ((0 : Int) ≤ u3_3 ∧ u3_3 < ((u3_2.n : Nat) : Int))) (
 .leaf (.next ((Sq.mk u3_2.n (fun k0 => (qB.mk (cond (Nat.beq k0 (Int.toNat u3_3)) z0.Low (u3_2.f k0).Low) (cond (Nat.beq k0 (Int.toNat u3_3)) z0.High (u3_2.f k0).High)))), (wr (u3_3 + (1 : Int)))))) (
 .fail)) (
 .leaf (.next (u3_2, (wr (u3_3 + (1 : Int))))))) (
 .fail)) (
 .leaf (.l u3_2))
def vG : LpM := ⟨(Sq qC), (Sq qB) × Int, (Sq qB), Unit, fun p => ⟨[(3, .own 192 0), (9, sqA 10 qC.enc p.1), (10, .int .i64 ((p.1.n : Nat) : Int)), (11, .int .i64 p.2.2)], [(192, rowA 0 2 51 qB.enc p.2.1)], 512⟩, fun f v => Ev f v.1 v.2, true, (.exit 0), (fun _ a => ⟨[(3, .own 192 0)], [(192, rowA 0 2 51 qB.enc a)], 512⟩), .ret, (fun _ _ => ⟨[], [], 0⟩), c1, c1k⟩
def Jg (u3_0 : Sq qC) (u3_2 : Sq qB) (u3_3 : Int) : Option (((Sq qB)) ⊕ (Unit)) := vG.val (u3_0, (u3_2, u3_3))
theorem adx (u3_0 : Sq qC) (u3_2 : Sq qB) (u3_3 : Int) : Jg u3_0 u3_2 u3_3 = fixO (fun v : (Sq qB) × Int => Ev u3_0 v.1 v.2) (u3_2, u3_3) := vG.val_eq (fun x => (sqD qC.dec (aget x.tm 9), (sqB qB.dec (blkS x 192), intA (aget x.tm 11)))) (fun p => by kernel_rfl) (u3_0, (u3_2, u3_3))
def Kv (roads : Sq qC) : DT ((Sq qB)) :=
 .ite (decide ((0 : Int) ≤ ((roads.n : Nat) : Int) ∧ ((roads.n : Nat) : Int) ≤ ((roads.n : Nat) : Int) ∧ ((roads.n : Nat) : Int) * ((16 : Nat) : Int) ≤ 140737488355328 ∧ ((roads.n : Nat) : Int) ≤ 1099511627776)) (
 .sum (Jg roads (Sq.mk (Int.toNat ((roads.n : Nat) : Int)) (fun _ => (qB.mk (0 : Int) (0 : Int)))) (0 : Int)) (fun y0 =>
 .leaf y0) (fun _ => .fail)) (
 .fail)
def uF : FnM := nfM ((Sq qC)) ((Sq qB)) (fun p => ([sqA 10 qC.enc p], [])) (fun p => Kv p) (fun _ => .own 0 0) (fun _ r => [rowA 0 2 51 qB.enc r])
def HY : Env := envM [(70, tY.c)] [(3, [3, 9, 10, 11], [3])] [(3, vG.c)] [] [(3, [192])] 0
def VX : Env := { HY with nt := 25 }
theorem Lh : aQ VX (qd 3 Tryz.f40) vG.c := vG.tells 512 (fun _ => by kernel_rfl) (fun _ _ _ _ => by kernel_rfl) (fun _ _ _ _ => by kernel_rfl) fun R f v N K => by kernel_rfl
theorem O0 : aI Tryz.prog 40 uF.c := uF.tells Tryz.func40 (show ∀ p, arun HY Tryz.f40 (uF.enc p).1 (uF.enc p).2 = _ from fun p => by kernel_rfl) (qg [qd 3 Tryz.f40] (by kernel_rfl) ⟨lpT (by kernel_rfl) Lh, trivial⟩) (.cons DI .nil)
def N7 (roads : Sq qC) : Option ((Sq qB)) := uF.val roads
theorem aeC (roads : Sq qC) : N7 roads = (Kv roads).get := uF.val_eq (fun x => sqD qC.dec (gd x.1 0)) (fun p => by kernel_rfl) roads
def JC (u4_0 u4_1 : Sq qB) (u4_2 : Int) : DT (LR (Int) (Unit) (Unit)) :=
 .ite (decide (u4_2 < ((u4_0.n : Nat) : Int))) (
 .ite (decide ((0 : Int) ≤ u4_2 ∧ u4_2 < ((u4_0.n : Nat) : Int))) (
 .ite (decide ((0 : Int) ≤ u4_2 ∧ u4_2 < ((u4_1.n : Nat) : Int))) (
 .ite (!(((u4_0.f (Int.toNat u4_2)).Low == (u4_1.f (Int.toNat u4_2)).Low) && (((u4_0.f (Int.toNat u4_2)).High == (u4_1.f (Int.toNat u4_2)).High) && true))) (
 .leaf (.r ())) (
 .leaf (.next (wr (u4_2 + (1 : Int)))))) (
 .fail)) (
 .fail)) (
 .leaf (.l ()))
def Bg : LpM := ⟨(Sq qB) × (Sq qB), Int, Unit, Unit, fun p => ⟨[(0, sqA 2 qB.enc p.1.1), (1, sqA 2 qB.enc p.1.2), (5, .int .i64 p.2)], [], 512⟩, fun f v => JC f.1 f.2 v, false, (.exit 0), (fun _ _ => ⟨[(4, .undef)], [], 512⟩), .ret, (fun _ _ => ⟨[(4, .bool false)], [], 512⟩), c1, c1k⟩
def TW (u4_0 u4_1 : Sq qB) (u4_2 : Int) : Option ((Unit) ⊕ (Unit)) := Bg.val ((u4_0, u4_1), u4_2)
theorem afI (u4_0 u4_1 : Sq qB) (u4_2 : Int) : TW u4_0 u4_1 u4_2 = fixO (fun v : Int => JC u4_0 u4_1 v) u4_2 := Bg.val_eq (fun x => ((sqD qB.dec (aget x.tm 0), sqD qB.dec (aget x.tm 1)), intA (aget x.tm 5))) (fun p => by kernel_rfl) ((u4_0, u4_1), u4_2)
def WZ (a b : Sq qB) : DT (Bool) :=
 .ite (((a.n : Nat) : Int) != ((b.n : Nat) : Int)) (
 .leaf false) (
 .sum (TW a b (0 : Int)) (fun _ =>
 .leaf true) (fun _ => .leaf false))
def vC : FnM := flM ((Sq qB) × (Sq qB)) (Bool) (fun p => ([sqA 2 qB.enc p.1, sqA 2 qB.enc p.2], [])) (fun p => WZ p.1 p.2) (fun r => .bool r) (fun _ => rfl)
def Qx : Env := envM [] [(4, [0, 1, 5], [4])] [(4, Bg.c)] [] [(4, [])] 0
def adf : Env := { Qx with nt := 26 }
theorem R9 : aQ adf (qd 4 Tryz.f14) Bg.c := Bg.tells 512 (fun _ => by kernel_rfl) (fun _ _ _ _ => by kernel_rfl) (fun _ _ _ _ => by kernel_rfl) fun R f v N K => by kernel_rfl
theorem Dk : aI Tryz.prog 14 vC.c := vC.tells Tryz.func14 (show ∀ p, arun Qx Tryz.f14 (vC.enc p).1 (vC.enc p).2 = _ from fun p => by kernel_rfl) (qg [qd 4 Tryz.f14] (by kernel_rfl) ⟨lpT (by kernel_rfl) R9, trivial⟩) .nil
def Gd (a b : Sq qB) : Option (Bool) := vC.val (a, b)
theorem ahu (a b : Sq qB) : Gd a b = (WZ a b).get := vC.val_eq (fun x => (sqD qB.dec (gd x.1 0), sqD qB.dec (gd x.1 1))) (fun p => by kernel_rfl) (a, b)
def LJ (n length : Int) : DT (Bool) :=
 .ite (decide ((0 : Int) ≤ n)) (.leaf (decide (n < length))) (.leaf false)
def uo : FnM := flM (Int × Int) (Bool) (fun p => ([.int .i64 p.1, .int .i64 p.2], [])) (fun p => LJ p.1 p.2) (fun r => .bool r) (fun _ => rfl)
def UY : Env := envM [] [] [] [] [] 0
theorem Gx : aI Tryz.prog 48 uo.c := uo.tells Tryz.func48 (show ∀ p, arun UY Tryz.f48 (uo.enc p).1 (uo.enc p).2 = _ from fun p => by kernel_rfl) p8 .nil
def ER (n length : Int) : Option (Bool) := uo.val (n, length)
theorem aeT (n length : Int) : ER n length = (LJ n length).get := uo.val_eq (fun x => (intA (gd x.1 0), intA (gd x.1 1))) (fun p => by kernel_rfl) (n, length)
def Jf (l : Sq qG) (m : qE) (roads : Int) : DT (Bool) :=
 .bind (ER m.Sensor ((l.n : Nat) : Int)) fun z0 =>
 .ite z0 (
 .ite (decide ((0 : Int) ≤ m.Sensor ∧ m.Sensor < ((l.n : Nat) : Int))) (
 .ite ((l.f (Int.toNat m.Sensor)).Kind == (3 : Int)) (
 .ite (decide ((0 : Int) ≤ m.Sensor ∧ m.Sensor < ((l.n : Nat) : Int))) (
 .bind (ER (l.f (Int.toNat m.Sensor)).Target roads) fun z1 =>
 .leaf z1) (
 .fail)) (
 .leaf false)) (
 .fail)) (
 .leaf false)
def tZ : FnM := flM ((Sq qG) × qE × Int) (Bool) (fun p => ([sqA 8 qG.enc p.1, .agg (qE.enc p.2.1), .int .i64 p.2.2], [])) (fun p => Jf p.1 p.2.1 p.2.2) (fun r => .bool r) (fun _ => rfl)
def PG : Env := envM [(48, uo.c)] [] [] [] [] 0
theorem Nc : aI Tryz.prog 52 tZ.c := tZ.tells Tryz.func52 (show ∀ p, arun PG Tryz.f52 (tZ.enc p).1 (tZ.enc p).2 = _ from fun p => by kernel_rfl) p8 (.cons Gx .nil)
def LK (l : Sq qG) (m : qE) (roads : Int) : Option (Bool) := tZ.val (l, m, roads)
theorem aeg (l : Sq qG) (m : qE) (roads : Int) : LK l m roads = (Jf l m roads).get := tZ.val_eq (fun x => (sqD qG.dec (gd x.1 0), qE.dec (aggL (gd x.1 1)), intA (gd x.1 2))) (fun p => by kernel_rfl) (l, m, roads)
def Hg (u2_0 u2_1 : Int) (u2_2 : Sq Int) (u2_4 : Int) : DT (LR (Int) (Unit) (Unit)) :=
 .ite (decide (u2_4 < ((u2_2.n : Nat) : Int))) (
 .ite (decide ((0 : Int) ≤ u2_4 ∧ u2_4 < ((u2_2.n : Nat) : Int))) (
 .ite (decide ((u2_2.f (Int.toNat u2_4)) < u2_0)) (
 .leaf (.r ())) (
 .ite (decide ((u2_2.f (Int.toNat u2_4)) > u2_1)) (
 .leaf (.r ())) (
 .leaf (.next (wr (u2_4 + (1 : Int))))))) (
 .fail)) (
 .leaf (.l ()))
def yI : LpM := ⟨Int × Int × (Sq Int), Int, Unit, Unit, fun p => ⟨[(0, .int .i64 p.1.1), (1, .int .i64 p.1.2.1), (9, sqA 1 (eI .i64) p.1.2.2), (10, .int .i64 ((p.1.2.2.n : Nat) : Int)), (11, .int .i64 p.2)], [], 256⟩, fun f v => Hg f.1 f.2.1 f.2.2 v, false, (.exit 0), (fun _ _ => ⟨[(6, .undef)], [], 256⟩), .ret, (fun _ _ => ⟨[(6, .bool false)], [], 256⟩), c1, c1k⟩
def OP (u2_0 u2_1 : Int) (u2_2 : Sq Int) (u2_4 : Int) : Option ((Unit) ⊕ (Unit)) := yI.val ((u2_0, u2_1, u2_2), u2_4)
theorem aeO (u2_0 u2_1 : Int) (u2_2 : Sq Int) (u2_4 : Int) : OP u2_0 u2_1 u2_2 u2_4 = fixO (fun v : Int => Hg u2_0 u2_1 u2_2 v) u2_4 := yI.val_eq (fun x => ((intA (aget x.tm 0), intA (aget x.tm 1), sqD dI (aget x.tm 9)), intA (aget x.tm 11))) (fun p => by kernel_rfl) ((u2_0, u2_1, u2_2), u2_4)
def Ru (low high : Int) (numbers : Sq Int) : DT (Bool) :=
 .sum (OP low high numbers (0 : Int)) (fun _ =>
 .leaf true) (fun _ => .leaf false)
def xw : FnM := flM (Int × Int × (Sq Int)) (Bool) (fun p => ([.int .i64 p.1, .int .i64 p.2.1, sqA 1 (eI .i64) p.2.2], [])) (fun p => Ru p.1 p.2.1 p.2.2) (fun r => .bool r) (fun _ => rfl)
def MV : Env := envM [] [(2, [0, 1, 9, 10, 11], [6])] [(2, yI.c)] [] [(2, [])] 0
def abB : Env := { MV with nt := 24 }
theorem Ph : aQ abB (qd 2 Tryz.f119) yI.c := yI.tells 256 (fun _ => by kernel_rfl) (fun _ _ _ _ => by kernel_rfl) (fun _ _ _ _ => by kernel_rfl) fun R f v N K => by kernel_rfl
theorem VA : aI Tryz.prog 119 xw.c := xw.tells Tryz.func119 (show ∀ p, arun MV Tryz.f119 (xw.enc p).1 (xw.enc p).2 = _ from fun p => by kernel_rfl) (qg [qd 2 Tryz.f119] (by kernel_rfl) ⟨lpT (by kernel_rfl) Ph, trivial⟩) .nil
def Dl (low high : Int) (numbers : Sq Int) : Option (Bool) := xw.val (low, high, numbers)
theorem agH (low high : Int) (numbers : Sq Int) : Dl low high numbers = (Ru low high numbers).get := xw.val_eq (fun x => (intA (gd x.1 0), intA (gd x.1 1), sqD dI (gd x.1 2))) (fun p => by kernel_rfl) (low, high, numbers)
def Ux (s : qG) : DT (Int) :=
 .bind (Dl (1 : Int) (6 : Int) (Sq.mk 1 (fun _ => s.Kind))) fun z0 =>
 .ite (!z0) (
 .leaf (5 : Int)) (
 .bind (Dl (0 : Int) (255 : Int) (Sq.mk 1 (fun _ => s.Address))) fun z1 =>
 .ite (!z1) (
 .leaf (1 : Int)) (
 .ite (decide (s.Target < (0 : Int))) (
 .leaf (1 : Int)) (
 .bind (Dl (-1000000 : Int) (1000000 : Int) (Sq.mk 2 (fun k0 => (cond (Nat.beq k0 0) s.Offset s.Scale)))) fun z2 =>
 .ite (!z2) (
 .leaf (1 : Int)) (
 .bind (Dl (0 : Int) (1000000 : Int) (Sq.mk 2 (fun k1 => (cond (Nat.beq k1 0) s.Error s.Drift)))) fun z3 =>
 .ite (!z3) (
 .leaf (1 : Int)) (
 .bind (Dl (1 : Int) (1000000 : Int) (Sq.mk 1 (fun _ => s.Life))) fun z4 =>
 .ite (!z4) (.leaf (1 : Int)) (.leaf (0 : Int)))))))
def yT : FnM := flM (qG) (Int) (fun p => ([.agg (qG.enc p)], [])) (fun p => Ux p) (fun r => .int .i64 r) (fun _ => rfl)
def aah : Env := envM [(119, xw.c)] [] [] [] [] 0
theorem XG : aI Tryz.prog 86 yT.c := yT.tells Tryz.func86 (show ∀ p, arun aah Tryz.f86 (yT.enc p).1 (yT.enc p).2 = _ from fun p => by kernel_rfl) p8 (.cons VA .nil)
def ZA (s : qG) : Option (Int) := yT.val s
theorem ag8 (s : qG) : ZA s = (Ux s).get := yT.val_eq (fun x => qG.dec (aggL (gd x.1 0))) (fun p => by kernel_rfl) s
def OW (s : qG) (v : qB) (later : Int) : DT (qB) :=
 .ite (s.Kind == (4 : Int)) (
 .leaf v) (
 .ite (s.Kind == (5 : Int)) (
 .leaf v) (
 .ite (s.Kind == (6 : Int)) (
 .leaf v) (
 .ite (s.Kind == (1 : Int)) (
 .leaf (qB.mk (if (wr (v.Low - (wr (Int.tdiv (wr ((wr (s.Drift * later)) + (999 : Int))) (1000 : Int))))) < (0 : Int) then (0 : Int) else (wr (v.Low - (wr (Int.tdiv (wr ((wr (s.Drift * later)) + (999 : Int))) (1000 : Int)))))) (if (wr (v.High + (wr (Int.tdiv (wr ((wr (s.Drift * later)) + (999 : Int))) (1000 : Int))))) < (0 : Int) then (0 : Int) else (wr (v.High + (wr (Int.tdiv (wr ((wr (s.Drift * later)) + (999 : Int))) (1000 : Int)))))))) (
 .ite (s.Kind == (2 : Int)) (.leaf (qB.mk (if (wr (v.Low - (wr (Int.tdiv (wr ((wr (s.Drift * later)) + (999 : Int))) (1000 : Int))))) < (0 : Int) then (0 : Int) else (wr (v.Low - (wr (Int.tdiv (wr ((wr (s.Drift * later)) + (999 : Int))) (1000 : Int)))))) (if (wr (v.High + (wr (Int.tdiv (wr ((wr (s.Drift * later)) + (999 : Int))) (1000 : Int))))) < (0 : Int) then (0 : Int) else (wr (v.High + (wr (Int.tdiv (wr ((wr (s.Drift * later)) + (999 : Int))) (1000 : Int)))))))) (.leaf (qB.mk (wr (v.Low - (wr (Int.tdiv (wr ((wr (s.Drift * later)) + (999 : Int))) (1000 : Int))))) (wr (v.High + (wr (Int.tdiv (wr ((wr (s.Drift * later)) + (999 : Int))) (1000 : Int)))))))))))
def vZ : FnM := flM (qG × qB × Int) (qB) (fun p => ([.agg (qG.enc p.1), .agg (qB.enc p.2.1), .int .i64 p.2.2], [])) (fun p => OW p.1 p.2.1 p.2.2) (fun r => .agg (qB.enc r)) (fun _ => rfl)
def XR : Env := envM [] [] [] [] [] 0
theorem SS : aI Tryz.prog 87 vZ.c := vZ.tells Tryz.func87 (show ∀ p, arun XR Tryz.f87 (vZ.enc p).1 (vZ.enc p).2 = _ from fun p => by kernel_rfl) p8 .nil
def UK (s : qG) (v : qB) (later : Int) : Option (qB) := vZ.val (s, v, later)
theorem af6 (s : qG) (v : qB) (later : Int) : UK s v later = (OW s v later).get := vZ.val_eq (fun x => (qG.dec (aggL (gd x.1 0)), qB.dec (aggL (gd x.1 1)), intA (gd x.1 2))) (fun p => by kernel_rfl) (s, v, later)
def abE (s : qG) (m : qE) (time : Int) : DT (qB) :=
 .bind (ZA s) fun z0 =>
 .ite (z0 != (0 : Int)) (
 .bind (uE) fun z1 =>
 .leaf z1) (
 .ite (decide (m.Sensor < (0 : Int))) (
 .bind (uE) fun z2 =>
 .leaf z2) (
 .bind (uE) fun z3 =>
 .ite ((m.Span.Low == z3.Low) && ((m.Span.High == z3.High) && true)) (
 .bind (uE) fun z4 =>
 .leaf z4) (
 .ite (decide (time < m.Time)) (
 .bind (uE) fun z5 =>
 .leaf z5) (
 .ite (decide ((IntKind.u64.wrap (wr (time - m.Time))) > (IntKind.u64.wrap s.Life))) (
 .bind (uE) fun z6 =>
 .leaf z6) (
 .bind (UK s m.Span (wr (time - m.Time))) fun z7 =>
 .leaf z7)))))
def Eu : FnM := flM (qG × qE × Int) (qB) (fun p => ([.agg (qG.enc p.1), .agg (qE.enc p.2.1), .int .i64 p.2.2], [])) (fun p => abE p.1 p.2.1 p.2.2) (fun r => .agg (qB.enc r)) (fun _ => rfl)
def adv : Env := envM [(86, yT.c), (70, tY.c), (87, vZ.c)] [] [] [] [] 0
theorem abF : aI Tryz.prog 54 Eu.c := Eu.tells Tryz.func54 (show ∀ p, arun adv Tryz.f54 (Eu.enc p).1 (Eu.enc p).2 = _ from fun p => by kernel_rfl) p8 (.cons XG (.cons DI (.cons SS .nil)))
def aec (s : qG) (m : qE) (time : Int) : Option (qB) := Eu.val (s, m, time)
theorem aiB (s : qG) (m : qE) (time : Int) : aec s m time = (abE s m time).get := Eu.val_eq (fun x => (qG.dec (aggL (gd x.1 0)), qE.dec (aggL (gd x.1 1)), intA (gd x.1 2))) (fun p => by kernel_rfl) (s, m, time)
def UL (s : qB) : DT (Bool) :=
 .leaf (decide (s.Low > s.High))
def yU : FnM := flM (qB) (Bool) (fun p => ([.agg (qB.enc p)], [])) (fun p => UL p) (fun r => .bool r) (fun _ => rfl)
def aao : Env := envM [] [] [] [] [] 0
theorem XT : aI Tryz.prog 85 yU.c := yU.tells Tryz.func85 (show ∀ p, arun aao Tryz.f85 (yU.enc p).1 (yU.enc p).2 = _ from fun p => by kernel_rfl) p8 .nil
def ZG (s : qB) : Option (Bool) := yU.val s
theorem ahb (s : qB) : ZG s = (UL s).get := yU.val_eq (fun x => qB.dec (aggL (gd x.1 0))) (fun p => by kernel_rfl) s
def Ke (u5_0 : Sq qB) (u5_2 u5_3 u5_4 : Int) : DT (LR (Int × Int × Int) (Int × Int) (Unit)) :=
 .ite (decide (u5_4 < ((u5_0.n : Nat) : Int))) (
 .ite (decide ((0 : Int) ≤ u5_4 ∧ u5_4 < ((u5_0.n : Nat) : Int))) (
 .leaf (.next ((if u5_2 < (u5_0.f (Int.toNat u5_4)).Low then (u5_0.f (Int.toNat u5_4)).Low else u5_2), (if (u5_0.f (Int.toNat u5_4)).High < u5_3 then (u5_0.f (Int.toNat u5_4)).High else u5_3), (wr (u5_4 + (1 : Int)))))) (
 .fail)) (
 .leaf (.l (u5_2, u5_3)))
def BK : LpM := ⟨(Sq qB), Int × Int × Int, Int × Int, Unit, fun p => ⟨[(2, .ptr 0 0), (4, .ptr 704 0), (14, sqA 2 qB.enc p.1), (15, .int .i64 ((p.1.n : Nat) : Int)), (16, .int .i64 p.2.2.2)], [(0, .var [.int .i64 (0 : Int), .int .i64 (0 : Int)]), (704, .var [.int .i64 p.2.1, .int .i64 p.2.2.1])], 1024⟩, fun f v => Ke f v.1 v.2.1 v.2.2, true, (.exit 0), (fun _ a => ⟨[(2, .ptr 0 0), (4, .ptr 704 0)], [(0, .var [.int .i64 (0 : Int), .int .i64 (0 : Int)]), (704, .var [.int .i64 a.1, .int .i64 a.2])], 1024⟩), .ret, (fun _ _ => ⟨[], [], 0⟩), c1, c1k⟩
def UJ (u5_0 : Sq qB) (u5_2 u5_3 u5_4 : Int) : Option ((Int × Int) ⊕ (Unit)) := BK.val (u5_0, (u5_2, u5_3, u5_4))
theorem af5 (u5_0 : Sq qB) (u5_2 u5_3 u5_4 : Int) : UJ u5_0 u5_2 u5_3 u5_4 = fixO (fun v : Int × Int × Int => Ke u5_0 v.1 v.2.1 v.2.2) (u5_2, u5_3, u5_4) := BK.val_eq (fun x => (sqD qB.dec (aget x.tm 14), (intA (cellS x 704 0), intA (cellS x 704 1), intA (aget x.tm 16)))) (fun p => by kernel_rfl) (u5_0, (u5_2, u5_3, u5_4))
def XQ (l : Sq qB) : DT (qB × Bool) :=
 .ite (((l.n : Nat) : Int) == (0 : Int)) (
 .bind (uE) fun z0 =>
 .leaf (z0, true)) (
 .ite (decide ((0 : Int) ≤ (0 : Int) ∧ (0 : Int) < ((l.n : Nat) : Int))) (
 .sum (UJ l (l.f 0).Low (l.f 0).High (0 : Int)) (fun y0 =>
 .bind (ZG (qB.mk y0.1 y0.2)) fun z1 =>
 .ite z1 (
 .bind (uE) fun z2 =>
 .leaf (z2, false)) (
 .leaf ((qB.mk y0.1 y0.2), true))) (fun _ => .fail)) (
 .fail))
def AL : FnM := flM ((Sq qB)) (qB × Bool) (fun p => ([sqA 2 qB.enc p], [])) (fun p => XQ p) (fun r => .tup [.agg (qB.enc r.1), .bool r.2]) (fun _ => rfl)
def Rz : Env := envM [(70, tY.c), (85, yU.c)] [(5, [2, 4, 14, 15, 16], [2, 4])] [(5, BK.c)] [] [(5, [0, 704])] 0
def adw : Env := { Rz with nt := 37 }
theorem SN : aQ adw (qd 5 Tryz.f53) BK.c := BK.tells 1024 (fun _ => by kernel_rfl) (fun _ _ _ _ => by kernel_rfl) (fun _ _ _ _ => by kernel_rfl) fun R f v N K => by kernel_rfl
theorem YM : aI Tryz.prog 53 AL.c := AL.tells Tryz.func53 (show ∀ p, arun Rz Tryz.f53 (AL.enc p).1 (AL.enc p).2 = _ from fun p => by kernel_rfl) (qg [qd 5 Tryz.f53] (by kernel_rfl) ⟨lpT (by kernel_rfl) SN, trivial⟩) (.cons DI (.cons XT .nil))
def abG (l : Sq qB) : Option (qB × Bool) := AL.val l
theorem ahS (l : Sq qB) : abG l = (XQ l).get := AL.val_eq (fun x => sqD qB.dec (gd x.1 0)) (fun p => by kernel_rfl) l
def EP (u4_0 : Sq qB) (u4_1 : Sq qG) (u4_2 : Int) (u4_3 : Sq qE) (u4_5 : Sq qB) (u4_6 : Sq Bool) (u4_7 : Sq Int) (u4_8 : Int) : DT (LR ((Sq qB) × (Sq Bool) × (Sq Int) × Int) ((Sq qB) × (Sq Bool) × (Sq Int)) (Unit)) :=
 .ite (decide (u4_8 < ((u4_3.n : Nat) : Int))) (
 .ite (decide ((0 : Int) ≤ u4_8 ∧ u4_8 < ((u4_3.n : Nat) : Int))) (
 .bind (LK u4_1 (u4_3.f (Int.toNat u4_8)) ((u4_0.n : Nat) : Int)) fun z0 =>
 .ite (!z0) (
 .leaf (.next (u4_5, u4_6, u4_7, (wr (u4_8 + (1 : Int)))))) (
 .ite (decide ((0 : Int) ≤ (u4_3.f (Int.toNat u4_8)).Sensor ∧ (u4_3.f (Int.toNat u4_8)).Sensor < ((u4_1.n : Nat) : Int))) (
 .ite (decide ((0 : Int) ≤ (u4_1.f (Int.toNat (u4_3.f (Int.toNat u4_8)).Sensor)).Target ∧ (u4_1.f (Int.toNat (u4_3.f (Int.toNat u4_8)).Sensor)).Target < ((u4_6.n : Nat) : Int))) (
 .ite (u4_6.f (Int.toNat (u4_1.f (Int.toNat (u4_3.f (Int.toNat u4_8)).Sensor)).Target)) (
 .leaf (.next (u4_5, u4_6, u4_7, (wr (u4_8 + (1 : Int)))))) (
 .ite (decide ((0 : Int) ≤ (u4_1.f (Int.toNat (u4_3.f (Int.toNat u4_8)).Sensor)).Target ∧ (u4_1.f (Int.toNat (u4_3.f (Int.toNat u4_8)).Sensor)).Target < ((u4_5.n : Nat) : Int))) (
 .bind (aec (u4_1.f (Int.toNat (u4_3.f (Int.toNat u4_8)).Sensor)) (u4_3.f (Int.toNat u4_8)) u4_2) fun z1 =>
 .bind (abG (Sq.mk 2 (fun k0 => (qB.mk (cond (Nat.beq k0 0) (u4_5.f (Int.toNat (u4_1.f (Int.toNat (u4_3.f (Int.toNat u4_8)).Sensor)).Target)).Low z1.Low) (cond (Nat.beq k0 0) (u4_5.f (Int.toNat (u4_1.f (Int.toNat (u4_3.f (Int.toNat u4_8)).Sensor)).Target)).High z1.High))))) fun z2 =>
 .ite (decide ((0 : Int) ≤ (u4_1.f (Int.toNat (u4_3.f (Int.toNat u4_8)).Sensor)).Target ∧ (u4_1.f (Int.toNat (u4_3.f (Int.toNat u4_8)).Sensor)).Target < ((u4_5.n : Nat) : Int))) (
 .ite (!z2.2) (
 .ite (decide ((0 : Int) ≤ (u4_1.f (Int.toNat (u4_3.f (Int.toNat u4_8)).Sensor)).Target ∧ (u4_1.f (Int.toNat (u4_3.f (Int.toNat u4_8)).Sensor)).Target < ((u4_6.n : Nat) : Int))) (
 .ite (decide ((u4_7.n + 1) * 8 ≤ 140737488355328 ∧ (u4_7.n + 1) ≤ 1099511627776)) (
 .leaf (.next ((Sq.mk u4_5.n (fun k1 => (qB.mk (cond (Nat.beq k1 (Int.toNat (u4_1.f (Int.toNat (u4_3.f (Int.toNat u4_8)).Sensor)).Target)) z2.1.Low (u4_5.f k1).Low) (cond (Nat.beq k1 (Int.toNat (u4_1.f (Int.toNat (u4_3.f (Int.toNat u4_8)).Sensor)).Target)) z2.1.High (u4_5.f k1).High)))), (Sq.mk u4_6.n (fun k2 => (cond (Nat.beq k2 (Int.toNat (u4_1.f (Int.toNat (u4_3.f (Int.toNat u4_8)).Sensor)).Target)) true (u4_6.f k2)))), (Sq.mk (u4_7.n + 1) (fun k3 => (cond (Nat.blt k3 u4_7.n) (u4_7.f k3) (u4_3.f (Int.toNat u4_8)).Sensor))), (wr (u4_8 + (1 : Int)))))) (
 .fail)) (
 .fail)) (
 .leaf (.next ((Sq.mk u4_5.n (fun k4 => (qB.mk (cond (Nat.beq k4 (Int.toNat (u4_1.f (Int.toNat (u4_3.f (Int.toNat u4_8)).Sensor)).Target)) z2.1.Low (u4_5.f k4).Low) (cond (Nat.beq k4 (Int.toNat (u4_1.f (Int.toNat (u4_3.f (Int.toNat u4_8)).Sensor)).Target)) z2.1.High (u4_5.f k4).High)))), u4_6, u4_7, (wr (u4_8 + (1 : Int))))))) (
 .fail)) (
 .fail))) (
 .fail)) (
 .fail))) (
 .fail)) (
 .leaf (.l (u4_5, u4_6, u4_7)))
def wm : LpM := ⟨(Sq qB) × (Sq qG) × Int × (Sq qE), (Sq qB) × (Sq Bool) × (Sq Int) × Int, (Sq qB) × (Sq Bool) × (Sq Int), Unit, fun p => ⟨[(0, sqA 2 qB.enc p.1.1), (1, sqA 8 qG.enc p.1.2.1), (3, .int .i64 p.1.2.2.1), (10, .own 192 0), (11, .own 384 0), (12, .own 576 0), (23, sqA 4 qE.enc p.1.2.2.2), (24, .int .i64 ((p.1.2.2.2.n : Nat) : Int)), (25, .int .i64 p.2.2.2.2)], [(192, rowA 0 2 51 qB.enc p.2.1), (384, rowA 0 1 4 eO p.2.2.1), (576, rowA 0 1 3 (eI .i64) p.2.2.2.1)], 832⟩, fun f v => EP f.1 f.2.1 f.2.2.1 f.2.2.2 v.1 v.2.1 v.2.2.1 v.2.2.2, true, (.exit 0), (fun _ a => ⟨[(10, .own 192 0), (12, .own 576 0)], [(192, rowA 0 2 51 qB.enc a.1), (384, rowA 0 1 4 eO a.2.1), (576, rowA 0 1 3 (eI .i64) a.2.2)], 832⟩), .ret, (fun _ _ => ⟨[], [], 0⟩), c1, c1k⟩
def Ku (u4_0 : Sq qB) (u4_1 : Sq qG) (u4_2 : Int) (u4_3 : Sq qE) (u4_5 : Sq qB) (u4_6 : Sq Bool) (u4_7 : Sq Int) (u4_8 : Int) : Option (((Sq qB) × (Sq Bool) × (Sq Int)) ⊕ (Unit)) := wm.val ((u4_0, u4_1, u4_2, u4_3), (u4_5, u4_6, u4_7, u4_8))
theorem adF (u4_0 : Sq qB) (u4_1 : Sq qG) (u4_2 : Int) (u4_3 : Sq qE) (u4_5 : Sq qB) (u4_6 : Sq Bool) (u4_7 : Sq Int) (u4_8 : Int) : Ku u4_0 u4_1 u4_2 u4_3 u4_5 u4_6 u4_7 u4_8 = fixO (fun v : (Sq qB) × (Sq Bool) × (Sq Int) × Int => EP u4_0 u4_1 u4_2 u4_3 v.1 v.2.1 v.2.2.1 v.2.2.2) (u4_5, u4_6, u4_7, u4_8) := wm.val_eq (fun x => ((sqD qB.dec (aget x.tm 0), sqD qG.dec (aget x.tm 1), intA (aget x.tm 3), sqD qE.dec (aget x.tm 23)), (sqB qB.dec (blkS x 192), sqB dO (blkS x 384), sqB dI (blkS x 576), intA (aget x.tm 25)))) (fun p => by kernel_rfl) ((u4_0, u4_1, u4_2, u4_3), (u4_5, u4_6, u4_7, u4_8))
def LH (flows : Sq qB) (l : Sq qG) (m : Sq qE) (time : Int) : DT ((Sq qB) × (Sq Int)) :=
 .bind (K6 flows) fun z3 =>
 .ite (decide ((0 : Int) ≤ ((flows.n : Nat) : Int) ∧ ((flows.n : Nat) : Int) ≤ ((flows.n : Nat) : Int) ∧ ((flows.n : Nat) : Int) * ((1 : Nat) : Int) ≤ 140737488355328 ∧ ((flows.n : Nat) : Int) ≤ 1099511627776)) (
 .sum (Ku flows l time m z3 (Sq.mk (Int.toNat ((flows.n : Nat) : Int)) (fun _ => false)) (Sq.mk 0 (fun _ => (0 : Int))) (0 : Int)) (fun y0 =>
 .bind (NK y0.2.2) fun z4 =>
 .leaf (y0.1, z4)) (fun _ => .fail)) (
 .fail)
def rR : FnM := nfM ((Sq qB) × (Sq qG) × (Sq qE) × Int) ((Sq qB) × (Sq Int)) (fun p => ([sqA 2 qB.enc p.1, sqA 8 qG.enc p.2.1, sqA 4 qE.enc p.2.2.1, .int .i64 p.2.2.2], [])) (fun p => LH p.1 p.2.1 p.2.2.1 p.2.2.2) (fun _ => .tup [.own 0 0, .own 1 0]) (fun _ r => [rowA 0 2 51 qB.enc r.1, rowA 0 1 3 (eI .i64) r.2])
def Jd : Env := envM [(51, za.c), (52, tZ.c), (54, Eu.c), (53, AL.c), (55, wH.c)] [(4, [0, 1, 3, 10, 11, 12, 23, 24, 25], [10, 12]), (2000055, [], [])] [(4, wm.c)] [(1000004, [.asrow 576 3 1 (fun _ => (eI .i64) (0 : Int))])] [(4, [192, 384, 576])] 0
def XW : Env := { Jd with nt := 80 }
theorem LG : aQ XW (qd 4 Tryz.f25) wm.c := wm.tells 832 (fun _ => by kernel_rfl) (fun _ _ _ _ => by kernel_rfl) (fun _ _ _ _ => by kernel_rfl) fun R f v N K => by kernel_rfl
theorem yt : aI Tryz.prog 25 rR.c := rR.tells Tryz.func25 (show ∀ p, arun Jd Tryz.f25 (rR.enc p).1 (rR.enc p).2 = _ from fun p => by kernel_rfl) (qg [qd 4 Tryz.f25] (by kernel_rfl) ⟨lpT (by kernel_rfl) LG, trivial⟩) (.cons MW (.cons Nc (.cons abF (.cons YM (.cons Gp .nil)))))
def wR (flows : Sq qB) (l : Sq qG) (m : Sq qE) (time : Int) : Option ((Sq qB) × (Sq Int)) := rR.val (flows, l, m, time)
theorem aeS (flows : Sq qB) (l : Sq qG) (m : Sq qE) (time : Int) : wR flows l m time = (LH flows l m time).get := rR.val_eq (fun x => (sqD qB.dec (gd x.1 0), sqD qG.dec (gd x.1 1), sqD qE.dec (gd x.1 2), intA (gd x.1 3))) (fun p => by kernel_rfl) (flows, l, m, time)
def PE (s : qB) : DT (Bool) :=
 .leaf (decide (s.Low > s.High))
def vF : FnM := flM (qB) (Bool) (fun p => ([.agg (qB.enc p)], [])) (fun p => PE p) (fun r => .bool r) (fun _ => rfl)
def XY : Env := envM [] [] [] [] [] 0
theorem Je : aI Tryz.prog 47 vF.c := vF.tells Tryz.func47 (show ∀ p, arun XY Tryz.f47 (vF.enc p).1 (vF.enc p).2 = _ from fun p => by kernel_rfl) p8 .nil
def Nb (s : qB) : Option (Bool) := vF.val s
theorem agb (s : qB) : Nb s = (PE s).get := vF.val_eq (fun x => qB.dec (aggL (gd x.1 0))) (fun p => by kernel_rfl) s
def Ja (f : qB) : DT (Int) :=
 .bind (Nb f) fun z0 =>
 .ite z0 (
 .leaf (0 : Int)) (
 .ite (decide (f.Low > (0 : Int))) (
 .leaf (1 : Int)) (
 .ite (decide (f.High < (0 : Int))) (.leaf (-1 : Int)) (.leaf (0 : Int))))
def rJ : FnM := flM (qB) (Int) (fun p => ([.agg (qB.enc p)], [])) (fun p => Ja p) (fun r => .int .i64 r) (fun _ => rfl)
def Pz : Env := envM [(47, vF.c)] [] [] [] [] 0
theorem zY : aI Tryz.prog 16 rJ.c := rJ.tells Tryz.func16 (show ∀ p, arun Pz Tryz.f16 (rJ.enc p).1 (rJ.enc p).2 = _ from fun p => by kernel_rfl) p8 (.cons Je .nil)
def Di (f : qB) : Option (Int) := rJ.val f
theorem aef (f : qB) : Di f = (Ja f).get := rJ.val_eq (fun x => qB.dec (aggL (gd x.1 0))) (fun p => by kernel_rfl) f
def NZ (f : qB) (need : Int) : DT (Int) :=
 .bind (Nb f) fun z0 =>
 .ite z0 (
 .leaf (0 : Int)) (
 .ite (decide (need ≤ (0 : Int))) (
 .leaf (1 : Int)) (
 .ite (decide (f.Low ≥ need)) (
 .leaf (1 : Int)) (
 .ite (decide (f.High ≤ (wr (0 - need)))) (
 .leaf (1 : Int)) (
 .ite (decide (f.Low > (wr (0 - need)))) (
 .ite (decide (f.High < need)) (.leaf (-1 : Int)) (.leaf (0 : Int))) (
 .leaf (0 : Int))))))
def vO : FnM := flM (qB × Int) (Int) (fun p => ([.agg (qB.enc p.1), .int .i64 p.2], [])) (fun p => NZ p.1 p.2) (fun r => .int .i64 r) (fun _ => rfl)
def VW : Env := envM [(47, vF.c)] [] [] [] [] 0
theorem RN : aI Tryz.prog 49 vO.c := vO.tells Tryz.func49 (show ∀ p, arun VW Tryz.f49 (vO.enc p).1 (vO.enc p).2 = _ from fun p => by kernel_rfl) p8 (.cons Je .nil)
def Tg (f : qB) (need : Int) : Option (Int) := vO.val (f, need)
theorem aft (f : qB) (need : Int) : Tg f need = (NZ f need).get := vO.val_eq (fun x => (qB.dec (aggL (gd x.1 0)), intA (gd x.1 1))) (fun p => by kernel_rfl) (f, need)
def Jc (u3_0 : Sq qB) (u3_1 : Sq rW) (u3_3 : Sq Int) (u3_4 : Int) : DT (LR ((Sq Int) × Int) ((Sq Int)) (Unit)) :=
 .ite (decide (u3_4 < ((u3_1.n : Nat) : Int))) (
 .ite (decide ((0 : Int) ≤ u3_4 ∧ u3_4 < ((u3_1.n : Nat) : Int))) (
 .ite (decide ((0 : Int) ≤ u3_4 ∧ u3_4 < ((u3_3.n : Nat) : Int))) (
 .bind (ER (u3_1.f (Int.toNat u3_4)).Road ((u3_0.n : Nat) : Int)) fun z0 =>
 .ite z0 (
 .ite (decide ((0 : Int) ≤ (u3_1.f (Int.toNat u3_4)).Road ∧ (u3_1.f (Int.toNat u3_4)).Road < ((u3_0.n : Nat) : Int))) (
 .bind (Tg (u3_0.f (Int.toNat (u3_1.f (Int.toNat u3_4)).Road)) (u3_1.f (Int.toNat u3_4)).Need) fun z1 =>
 .ite (decide ((0 : Int) ≤ u3_4 ∧ u3_4 < ((u3_3.n : Nat) : Int))) (
 .leaf (.next ((Sq.mk u3_3.n (fun k0 => (cond (Nat.beq k0 (Int.toNat u3_4)) z1 (cond (Nat.beq k0 (Int.toNat u3_4)) (0 : Int) (u3_3.f k0))))), (wr (u3_4 + (1 : Int)))))) (
 .fail)) (
 .fail)) (
 .leaf (.next ((Sq.mk u3_3.n (fun k1 => (cond (Nat.beq k1 (Int.toNat u3_4)) (0 : Int) (u3_3.f k1)))), (wr (u3_4 + (1 : Int))))))) (
 .fail)) (
 .fail)) (
 .leaf (.l u3_3))
def A9 : LpM := ⟨(Sq qB) × (Sq rW), (Sq Int) × Int, (Sq Int), Unit, fun p => ⟨[(0, sqA 2 qB.enc p.1.1), (5, .own 192 0), (11, sqA 2 rW.enc p.1.2), (12, .int .i64 ((p.1.2.n : Nat) : Int)), (13, .int .i64 p.2.2)], [(192, rowA 0 1 3 (eI .i64) p.2.1)], 512⟩, fun f v => Jc f.1 f.2 v.1 v.2, true, (.exit 0), (fun _ a => ⟨[(5, .own 192 0)], [(192, rowA 0 1 3 (eI .i64) a)], 512⟩), .ret, (fun _ _ => ⟨[], [], 0⟩), c1, c1k⟩
def Tf (u3_0 : Sq qB) (u3_1 : Sq rW) (u3_3 : Sq Int) (u3_4 : Int) : Option (((Sq Int)) ⊕ (Unit)) := A9.val ((u3_0, u3_1), (u3_3, u3_4))
theorem afs (u3_0 : Sq qB) (u3_1 : Sq rW) (u3_3 : Sq Int) (u3_4 : Int) : Tf u3_0 u3_1 u3_3 u3_4 = fixO (fun v : (Sq Int) × Int => Jc u3_0 u3_1 v.1 v.2) (u3_3, u3_4) := A9.val_eq (fun x => ((sqD qB.dec (aget x.tm 0), sqD rW.dec (aget x.tm 11)), (sqB dI (blkS x 192), intA (aget x.tm 13)))) (fun p => by kernel_rfl) ((u3_0, u3_1), (u3_3, u3_4))
def VU (flows : Sq qB) (faces : Sq rW) : DT ((Sq Int)) :=
 .ite (decide ((0 : Int) ≤ ((faces.n : Nat) : Int) ∧ ((faces.n : Nat) : Int) ≤ ((faces.n : Nat) : Int) ∧ ((faces.n : Nat) : Int) * ((8 : Nat) : Int) ≤ 140737488355328 ∧ ((faces.n : Nat) : Int) ≤ 1099511627776)) (
 .sum (Tf flows faces (Sq.mk (Int.toNat ((faces.n : Nat) : Int)) (fun _ => (0 : Int))) (0 : Int)) (fun y0 =>
 .leaf y0) (fun _ => .fail)) (
 .fail)
def vv : FnM := nfM ((Sq qB) × (Sq rW)) ((Sq Int)) (fun p => ([sqA 2 qB.enc p.1, sqA 2 rW.enc p.2], [])) (fun p => VU p.1 p.2) (fun _ => .own 0 0) (fun _ r => [rowA 0 1 3 (eI .i64) r])
def PD : Env := envM [(48, uo.c), (49, vO.c)] [(3, [0, 5, 11, 12, 13], [5])] [(3, A9.c)] [] [(3, [192])] 0
def ac1 : Env := { PD with nt := 39 }
theorem RL : aQ ac1 (qd 3 Tryz.f20) A9.c := A9.tells 512 (fun _ => by kernel_rfl) (fun _ _ _ _ => by kernel_rfl) (fun _ _ _ _ => by kernel_rfl) fun R f v N K => by kernel_rfl
theorem Dj : aI Tryz.prog 20 vv.c := vv.tells Tryz.func20 (show ∀ p, arun PD Tryz.f20 (vv.enc p).1 (vv.enc p).2 = _ from fun p => by kernel_rfl) (qg [qd 3 Tryz.f20] (by kernel_rfl) ⟨lpT (by kernel_rfl) RL, trivial⟩) (.cons Gx (.cons RN .nil))
def Jb (flows : Sq qB) (faces : Sq rW) : Option ((Sq Int)) := vv.val (flows, faces)
theorem ahg (flows : Sq qB) (faces : Sq rW) : Jb flows faces = (VU flows faces).get := vv.val_eq (fun x => (sqD qB.dec (gd x.1 0), sqD rW.dec (gd x.1 1))) (fun p => by kernel_rfl) (flows, faces)
end
end Go.Proofs.YtimkpfnbkclclaaGreat.Ab
