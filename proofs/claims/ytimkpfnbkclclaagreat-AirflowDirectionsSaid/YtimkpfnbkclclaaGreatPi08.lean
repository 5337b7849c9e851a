/- A part of the proof, what is needed of it. -/
import Derived.Test.YtimkpfnbkclclaaGreatPi06
namespace Go.Proofs.YtimkpfnbkclclaaGreat.Ab
noncomputable section
open Go
attribute [local irreducible] arun
def WS (n low high : Int) : DT (Bool) :=
 .ite (decide (low ≤ n)) (.leaf (decide (n ≤ high))) (.leaf false)
def wE : FnM := flM (Int × Int × Int) (Bool) (fun p => ([.int .i64 p.1, .int .i64 p.2.1, .int .i64 p.2.2], [])) (fun p => WS p.1 p.2.1 p.2.2) (fun r => .bool r) (fun _ => rfl)
def aa5 : Env := envM [] [] [] [] [] 0
theorem Gb : aI Tryz.prog 96 wE.c := wE.tells Tryz.func96 (show ∀ p, arun aa5 Tryz.f96 (wE.enc p).1 (wE.enc p).2 = _ from fun p => by kernel_rfl) p8 .nil
def Es (n low high : Int) : Option (Bool) := wE.val (n, low, high)
theorem ahs (n low high : Int) : Es n low high = (WS n low high).get := wE.val_eq (fun x => (intA (gd x.1 0), intA (gd x.1 1), intA (gd x.1 2))) (fun p => by kernel_rfl) (n, low, high)
def Zd (s : qB) (low high : Int) : DT (Bool) :=
 .ite (decide (low ≤ s.Low)) (
 .ite (decide (s.Low ≤ s.High)) (.leaf (decide (s.High ≤ high))) (.leaf false)) (
 .leaf false)
def Cx : FnM := flM (qB × Int × Int) (Bool) (fun p => ([.agg (qB.enc p.1), .int .i64 p.2.1, .int .i64 p.2.2], [])) (fun p => Zd p.1 p.2.1 p.2.2) (fun r => .bool r) (fun _ => rfl)
def ab3 : Env := envM [] [] [] [] [] 0
theorem Z4 : aI Tryz.prog 134 Cx.c := Cx.tells Tryz.func134 (show ∀ p, arun ab3 Tryz.f134 (Cx.enc p).1 (Cx.enc p).2 = _ from fun p => by kernel_rfl) p8 .nil
def Yj (s : qB) (low high : Int) : Option (Bool) := Cx.val (s, low, high)
theorem ah5 (s : qB) (low high : Int) : Yj s low high = (Zd s low high).get := Cx.val_eq (fun x => (qB.dec (aggL (gd x.1 0)), intA (gd x.1 1), intA (gd x.1 2))) (fun p => by kernel_rfl) (s, low, high)
def Oy (r : qC) (places : Int) : DT (Int) :=
 .bind (Es r.From (0 : Int) (wr (places - (1 : Int)))) fun z0 =>
 .ite (!z0) (
 .leaf (4 : Int)) (
 .bind (Es r.To (0 : Int) (wr (places - (1 : Int)))) fun z1 =>
 .ite (!z1) (
 .leaf (4 : Int)) (
 .ite (r.From == r.To) (
 .leaf (4 : Int)) (
 .bind (Es r.Length (1 : Int) (100000 : Int)) fun z2 =>
 .ite (!z2) (
 .leaf (1 : Int)) (
 .bind (Es r.Area (1 : Int) (1000 : Int)) fun z3 =>
 .ite (!z3) (
 .leaf (1 : Int)) (
 .bind (Yj r.Rest (1 : Int) (262144 : Int)) fun z4 =>
 .ite (!z4) (
 .leaf (1 : Int)) (
 .bind (Yj r.Lift (-2199023255552 : Int) (2199023255552 : Int)) fun z5 =>
 .ite (!z5) (.leaf (1 : Int)) (.leaf (0 : Int))))))))
def vV : FnM := flM (qC × Int) (Int) (fun p => ([.agg (qC.enc p.1), .int .i64 p.2], [])) (fun p => Oy p.1 p.2) (fun r => .int .i64 r) (fun _ => rfl)
def WL : Env := envM [(96, wE.c), (134, Cx.c)] [] [] [] [] 0
theorem R7 : aI Tryz.prog 97 vV.c := vV.tells Tryz.func97 (show ∀ p, arun WL Tryz.f97 (vV.enc p).1 (vV.enc p).2 = _ from fun p => by kernel_rfl) p8 (.cons Gb (.cons Z4 .nil))
def TP (r : qC) (places : Int) : Option (Int) := vV.val (r, places)
theorem afG (r : qC) (places : Int) : TP r places = (Oy r places).get := vV.val_eq (fun x => (qC.dec (aggL (gd x.1 0)), intA (gd x.1 1))) (fun p => by kernel_rfl) (r, places)
def KM (u4_0 : Sq qA) (_u4_2 : Sq qC) (u4_3 : Int) : DT (LR (Int) (Unit) (Unit)) :=
 .ite (decide (u4_3 < ((u4_0.n : Nat) : Int))) (
 .ite (decide ((0 : Int) ≤ u4_3 ∧ u4_3 < ((u4_0.n : Nat) : Int))) (
 .bind (Es (u4_0.f (Int.toNat u4_3)).Height (-10000 : Int) (10000 : Int)) fun z0 =>
 .ite (!z0) (
 .leaf (.r ())) (
 .leaf (.next (wr (u4_3 + (1 : Int)))))) (
 .fail)) (
 .leaf (.l ()))
def Cr : LpM := ⟨(Sq qA) × (Sq qC), Int, Unit, Unit, fun p => ⟨[(1, .ptr 0 0), (19, sqA 2 qA.enc p.1.1), (20, .int .i64 ((p.1.1.n : Nat) : Int)), (21, .int .i64 p.2)], [(0, .var [sqA 2 qA.enc p.1.1, sqA 10 qC.enc p.1.2])], 1088⟩, fun f v => KM f.1 f.2 v, false, (.exit 0), (fun x _ => ⟨[(1, .ptr 0 0), (2, .undef)], [(0, blkS x 0)], 1088⟩), .ret, (fun x _ => ⟨[(1, .ptr 0 0), (2, .int .i64 (1 : Int))], [(0, blkS x 0)], 1088⟩), c1, c1k⟩
def WG (u4_0 : Sq qA) (u4_2 : Sq qC) (u4_3 : Int) : Option ((Unit) ⊕ (Unit)) := Cr.val ((u4_0, u4_2), u4_3)
theorem agp (u4_0 : Sq qA) (u4_2 : Sq qC) (u4_3 : Int) : WG u4_0 u4_2 u4_3 = fixO (fun v : Int => KM u4_0 u4_2 v) u4_3 := Cr.val_eq (fun x => ((sqD qA.dec (aget x.tm 19), sqD qC.dec (cellS x 0 1)), intA (aget x.tm 21))) (fun p => by kernel_rfl) ((u4_0, u4_2), u4_3)
def Jz (u10_0 : Sq qC) (u10_2 : Sq qA) (u10_3 : Int) : DT (LR (Int) (Unit) (Int)) :=
 .ite (decide (u10_3 < ((u10_0.n : Nat) : Int))) (
 .ite (decide ((0 : Int) ≤ u10_3 ∧ u10_3 < ((u10_0.n : Nat) : Int))) (
 .bind (TP (u10_0.f (Int.toNat u10_3)) ((u10_2.n : Nat) : Int)) fun z1 =>
 .ite (z1 != (0 : Int)) (
 .leaf (.r z1)) (
 .leaf (.next (wr (u10_3 + (1 : Int)))))) (
 .fail)) (
 .leaf (.l ()))
def Bc : LpM := ⟨(Sq qC) × (Sq qA), Int, Unit, Int, fun p => ⟨[(1, .ptr 0 0), (31, sqA 10 qC.enc p.1.1), (32, .int .i64 ((p.1.1.n : Nat) : Int)), (33, .int .i64 p.2)], [(0, .var [sqA 2 qA.enc p.1.2, sqA 10 qC.enc p.1.1])], 1344⟩, fun f v => Jz f.1 f.2 v, false, (.exit 2), (fun x _ => ⟨[(2, .undef)], [(0, blkS x 0)], 1344⟩), .ret, (fun x a => ⟨[(2, .int .i64 a)], [(0, blkS x 0)], 1344⟩), c1, c1k⟩
def TH (u10_0 : Sq qC) (u10_2 : Sq qA) (u10_3 : Int) : Option ((Unit) ⊕ (Int)) := Bc.val ((u10_0, u10_2), u10_3)
theorem afE (u10_0 : Sq qC) (u10_2 : Sq qA) (u10_3 : Int) : TH u10_0 u10_2 u10_3 = fixO (fun v : Int => Jz u10_0 u10_2 v) u10_3 := Bc.val_eq (fun x => ((sqD qC.dec (aget x.tm 31), sqD qA.dec (cellS x 0 0)), intA (aget x.tm 33))) (fun p => by kernel_rfl) ((u10_0, u10_2), u10_3)
def Y5 (m : qI) : DT (Int) :=
 .ite (decide (((m.Places.n : Nat) : Int) > (64 : Int))) (
 .leaf (2 : Int)) (
 .ite (decide (((m.Roads.n : Nat) : Int) > (128 : Int))) (
 .leaf (2 : Int)) (
 .sum (WG m.Places m.Roads (0 : Int)) (fun _ =>
 .sum (TH m.Roads m.Places (0 : Int)) (fun _ =>
 .leaf (0 : Int)) (fun y0 => .leaf y0)) (fun _ => .leaf (1 : Int))))
def zM : FnM := flM (qI) (Int) (fun p => ([.agg (qI.enc p)], [])) (fun p => Y5 p) (fun r => .int .i64 r) (fun _ => rfl)
def TG : Env := envM [(96, wE.c), (97, vV.c)] [(4, [1, 19, 20, 21], [1, 2]), (10, [1, 31, 32, 33], [2])] [(4, Cr.c), (10, Bc.c)] [] [(4, [0]), (10, [0])] 0
def Y4 : Env := { TG with nt := 46 }
theorem Vf : aQ Y4 (qd 4 Tryz.f64) Cr.c := Cr.tells 1088 (fun _ => by kernel_rfl) (fun _ _ _ _ => by kernel_rfl) (fun _ _ _ _ => by kernel_rfl) fun R f v N K => by kernel_rfl
theorem R5 : aQ Y4 (qd 10 Tryz.f64) Bc.c := Bc.tells 1344 (fun _ => by kernel_rfl) (fun _ _ _ _ => by kernel_rfl) (fun _ _ _ _ => by kernel_rfl) fun R f v N K => by kernel_rfl
theorem Ov : aI Tryz.prog 64 zM.c := zM.tells Tryz.func64 (show ∀ p, arun TG Tryz.f64 (zM.enc p).1 (zM.enc p).2 = _ from fun p => by kernel_rfl) (qg [qd 4 Tryz.f64, qd 10 Tryz.f64] (by kernel_rfl) ⟨lpT (by kernel_rfl) Vf, ⟨lpT (by kernel_rfl) R5, trivial⟩⟩) (.cons Gb (.cons R7 .nil))
def Yf (m : qI) : Option (Int) := zM.val m
theorem ah0 (m : qI) : Yf m = (Y5 m).get := zM.val_eq (fun x => qI.dec (aggL (gd x.1 0))) (fun p => by kernel_rfl) m
def Y1 (n low high : Int) : DT (Bool) :=
 .ite (decide (low ≤ n)) (.leaf (decide (n ≤ high))) (.leaf false)
def zL : FnM := flM (Int × Int × Int) (Bool) (fun p => ([.int .i64 p.1, .int .i64 p.2.1, .int .i64 p.2.2], [])) (fun p => Y1 p.1 p.2.1 p.2.2) (fun r => .bool r) (fun _ => rfl)
def abU : Env := envM [] [] [] [] [] 0
theorem Oq : aI Tryz.prog 135 zL.c := zL.tells Tryz.func135 (show ∀ p, arun abU Tryz.f135 (zL.enc p).1 (zL.enc p).2 = _ from fun p => by kernel_rfl) p8 .nil
def RA (n low high : Int) : Option (Bool) := zL.val (n, low, high)
theorem ahY (n low high : Int) : RA n low high = (Y1 n low high).get := zL.val_eq (fun x => (intA (gd x.1 0), intA (gd x.1 1), intA (gd x.1 2))) (fun p => by kernel_rfl) (n, low, high)
def aaS (from_ to_ : qH) : DT (Bool) :=
 .ite (decide (from_.Flow < to_.Flow)) (.leaf (decide (from_.Pressure ≥ to_.Pressure))) (.leaf false)
def Eo : FnM := flM (qH × qH) (Bool) (fun p => ([.agg (qH.enc p.1), .agg (qH.enc p.2)], [])) (fun p => aaS p.1 p.2) (fun r => .bool r) (fun _ => rfl)
def ac8 : Env := envM [] [] [] [] [] 0
theorem aaT : aI Tryz.prog 136 Eo.c := Eo.tells Tryz.func136 (show ∀ p, arun ac8 Tryz.f136 (Eo.enc p).1 (Eo.enc p).2 = _ from fun p => by kernel_rfl) p8 .nil
def adU (from_ to_ : qH) : Option (Bool) := Eo.val (from_, to_)
theorem aix (from_ to_ : qH) : adU from_ to_ = (aaS from_ to_).get := Eo.val_eq (fun x => (qH.dec (aggL (gd x.1 0)), qH.dec (aggL (gd x.1 1)))) (fun p => by kernel_rfl) (from_, to_)
def Ml (u6_0 : Sq qH) (_u6_2 : Int) (_u6_3 _u6_4 : Bool) (u6_5 : Int) : DT (LR (Int) (Unit) (Int)) :=
 .ite (decide (u6_5 < ((u6_0.n : Nat) : Int))) (
 .ite (decide ((0 : Int) ≤ u6_5 ∧ u6_5 < ((u6_0.n : Nat) : Int))) (
 .bind (RA (u6_0.f (Int.toNat u6_5)).Flow (-1048576 : Int) (1048576 : Int)) fun z0 =>
 .ite (!z0) (
 .leaf (.r (1 : Int))) (
 .bind (RA (u6_0.f (Int.toNat u6_5)).Pressure (0 : Int) (2199023255552 : Int)) fun z1 =>
 .ite (!z1) (
 .leaf (.r (1 : Int))) (
 .ite (decide (u6_5 > (0 : Int))) (
 .ite (decide ((0 : Int) ≤ (wr (u6_5 - (1 : Int))) ∧ (wr (u6_5 - (1 : Int))) < ((u6_0.n : Nat) : Int))) (
 .bind (adU (u6_0.f (Int.toNat (wr (u6_5 - (1 : Int))))) (u6_0.f (Int.toNat u6_5))) fun z2 =>
 .ite (!z2) (
 .leaf (.r (14 : Int))) (
 .leaf (.next (wr (u6_5 + (1 : Int)))))) (
 .fail)) (
 .leaf (.next (wr (u6_5 + (1 : Int)))))))) (
 .fail)) (
 .leaf (.l ()))
def DV : LpM := ⟨(Sq qH) × Int × Bool × Bool, Int, Unit, Int, fun p => ⟨[(1, .ptr 0 0), (21, sqA 2 qH.enc p.1.1), (22, .int .i64 ((p.1.1.n : Nat) : Int)), (23, .int .i64 p.2)], [(0, .var [.int .i64 p.1.2.1, .bool p.1.2.2.1, .bool p.1.2.2.2, sqA 2 qH.enc p.1.1])], 1472⟩, fun f v => Ml f.1 f.2.1 f.2.2.1 f.2.2.2 v, false, (.exit 1), (fun x _ => ⟨[(2, .undef)], [(0, blkS x 0)], 1472⟩), .ret, (fun x a => ⟨[(2, .int .i64 a)], [(0, blkS x 0)], 1472⟩), c1, c1k⟩
def Y0 (u6_0 : Sq qH) (u6_2 : Int) (u6_3 u6_4 : Bool) (u6_5 : Int) : Option ((Unit) ⊕ (Int)) := DV.val ((u6_0, u6_2, u6_3, u6_4), u6_5)
theorem agV (u6_0 : Sq qH) (u6_2 : Int) (u6_3 u6_4 : Bool) (u6_5 : Int) : Y0 u6_0 u6_2 u6_3 u6_4 u6_5 = fixO (fun v : Int => Ml u6_0 u6_2 u6_3 u6_4 v) u6_5 := DV.val_eq (fun x => ((sqD qH.dec (aget x.tm 21), intA (cellS x 0 0), pU (cellS x 0 1), pU (cellS x 0 2)), intA (aget x.tm 23))) (fun p => by kernel_rfl) ((u6_0, u6_2, u6_3, u6_4), u6_5)
def aaN (f : SFan) : DT (Int) :=
 .ite (decide (f.Road < (0 : Int))) (
 .leaf (4 : Int)) (
 .ite (((f.Curve.n : Nat) : Int) == (0 : Int)) (
 .leaf (2 : Int)) (
 .ite (decide (((f.Curve.n : Nat) : Int) > (8 : Int))) (
 .leaf (2 : Int)) (
 .sum (Y0 f.Curve f.Road f.Back f.Auxiliary (0 : Int)) (fun _ =>
 .leaf (0 : Int)) (fun y0 => .leaf y0))))
def Ck : FnM := flM (SFan) (Int) (fun p => ([.agg (SFan.enc p)], [])) (fun p => aaN p) (fun r => .int .i64 r) (fun _ => rfl)
def Wt : Env := envM [(135, zL.c), (136, Eo.c)] [(6, [1, 21, 22, 23], [2])] [(6, DV.c)] [] [(6, [0])] 0
def aeI : Env := { Wt with nt := 52 }
theorem Wu : aQ aeI (qd 6 Tryz.f98) DV.c := DV.tells 1472 (fun _ => by kernel_rfl) (fun _ _ _ _ => by kernel_rfl) (fun _ _ _ _ => by kernel_rfl) fun R f v N K => by kernel_rfl
theorem Qh : aI Tryz.prog 98 Ck.c := Ck.tells Tryz.func98 (show ∀ p, arun Wt Tryz.f98 (Ck.enc p).1 (Ck.enc p).2 = _ from fun p => by kernel_rfl) (qg [qd 6 Tryz.f98] (by kernel_rfl) ⟨lpT (by kernel_rfl) Wu, trivial⟩) (.cons Oq (.cons aaT .nil))
def aaM (f : SFan) : Option (Int) := Ck.val f
theorem aiw (f : SFan) : aaM f = (aaN f).get := Ck.val_eq (fun x => SFan.dec (aggL (gd x.1 0))) (fun p => by kernel_rfl) f
def Qa (n low high : Int) : DT (Bool) :=
 .ite (decide (low ≤ n)) (.leaf (decide (n ≤ high))) (.leaf false)
def vI : FnM := flM (Int × Int × Int) (Bool) (fun p => ([.int .i64 p.1, .int .i64 p.2.1, .int .i64 p.2.2], [])) (fun p => Qa p.1 p.2.1 p.2.2) (fun r => .bool r) (fun _ => rfl)
def X8 : Env := envM [] [] [] [] [] 0
theorem Jq : aI Tryz.prog 101 vI.c := vI.tells Tryz.func101 (show ∀ p, arun X8 Tryz.f101 (vI.enc p).1 (vI.enc p).2 = _ from fun p => by kernel_rfl) p8 .nil
def IQ (n low high : Int) : Option (Bool) := vI.val (n, low, high)
theorem agh (n low high : Int) : IQ n low high = (Qa n low high).get := vI.val_eq (fun x => (intA (gd x.1 0), intA (gd x.1 1), intA (gd x.1 2))) (fun p => by kernel_rfl) (n, low, high)
def Og (a : SAir) (road : Int) : DT (Bool) :=
 .bind (IQ road (0 : Int) (wr (((a.Mine.Roads.n : Nat) : Int) - (1 : Int)))) fun z0 =>
 .leaf z0
def tX : FnM := flM (SAir × Int) (Bool) (fun p => ([.agg (SAir.enc p.1), .int .i64 p.2], [])) (fun p => Og p.1 p.2) (fun r => .bool r) (fun _ => rfl)
def Wd : Env := envM [(101, vI.c)] [] [] [] [] 0
theorem DF : aI Tryz.prog 99 tX.c := tX.tells Tryz.func99 (show ∀ p, arun Wd Tryz.f99 (tX.enc p).1 (tX.enc p).2 = _ from fun p => by kernel_rfl) p8 (.cons Jq .nil)
def Gs (a : SAir) (road : Int) : Option (Bool) := tX.val (a, road)
theorem afy (a : SAir) (road : Int) : Gs a road = (Og a road).get := tX.val_eq (fun x => (SAir.dec (aggL (gd x.1 0)), intA (gd x.1 1))) (fun p => by kernel_rfl) (a, road)
def EA (u4_0 : Sq SFan) (u4_2 : Sq qA) (u4_3 : Sq qC) (u4_4 : Sq qD) (u4_5 : Int) : DT (LR (Int) (Unit) (Int)) :=
 .ite (decide (u4_5 < ((u4_0.n : Nat) : Int))) (
 .ite (decide ((0 : Int) ≤ u4_5 ∧ u4_5 < ((u4_0.n : Nat) : Int))) (
 .bind (aaM (u4_0.f (Int.toNat u4_5))) fun z0 =>
 .ite (z0 != (0 : Int)) (
 .leaf (.r z0)) (
 .bind (Gs (SAir.mk (qI.mk u4_2 u4_3) u4_0 u4_4) (u4_0.f (Int.toNat u4_5)).Road) fun z1 =>
 .ite (!z1) (
 .leaf (.r (4 : Int))) (
 .leaf (.next (wr (u4_5 + (1 : Int))))))) (
 .fail)) (
 .leaf (.l ()))
def vH : LpM := ⟨(Sq SFan) × (Sq qA) × (Sq qC) × (Sq qD), Int, Unit, Int, fun p => ⟨[(1, .ptr 0 0), (11, sqA 4 SFan.enc p.1.1), (12, .int .i64 ((p.1.1.n : Nat) : Int)), (13, .int .i64 p.2)], [(0, .var [sqA 2 qA.enc p.1.2.1, sqA 10 qC.enc p.1.2.2.1, sqA 4 SFan.enc p.1.1, sqA 3 qD.enc p.1.2.2.2])], 704⟩, fun f v => EA f.1 f.2.1 f.2.2.1 f.2.2.2 v, false, (.exit 0), (fun x _ => ⟨[(2, .undef)], [(0, blkS x 0)], 704⟩), .ret, (fun x a => ⟨[(2, .int .i64 a)], [(0, blkS x 0)], 704⟩), c1, c1k⟩
def Jo (u4_0 : Sq SFan) (u4_2 : Sq qA) (u4_3 : Sq qC) (u4_4 : Sq qD) (u4_5 : Int) : Option ((Unit) ⊕ (Int)) := vH.val ((u4_0, u4_2, u4_3, u4_4), u4_5)
theorem ady (u4_0 : Sq SFan) (u4_2 : Sq qA) (u4_3 : Sq qC) (u4_4 : Sq qD) (u4_5 : Int) : Jo u4_0 u4_2 u4_3 u4_4 u4_5 = fixO (fun v : Int => EA u4_0 u4_2 u4_3 u4_4 v) u4_5 := vH.val_eq (fun x => ((sqD SFan.dec (aget x.tm 11), sqD qA.dec (cellS x 0 0), sqD qC.dec (cellS x 0 1), sqD qD.dec (cellS x 0 3)), intA (aget x.tm 13))) (fun p => by kernel_rfl) ((u4_0, u4_2, u4_3, u4_4), u4_5)
def KH (a : SAir) : DT (Int) :=
 .ite (decide (((a.Fans.n : Nat) : Int) > (8 : Int))) (
 .leaf (2 : Int)) (
 .sum (Jo a.Fans a.Mine.Places a.Mine.Roads a.Doors (0 : Int)) (fun _ =>
 .leaf (0 : Int)) (fun y0 => .leaf y0))
def uJ : FnM := flM (SAir) (Int) (fun p => ([.agg (SAir.enc p)], [])) (fun p => KH p) (fun r => .int .i64 r) (fun _ => rfl)
def Ib : Env := envM [(98, Ck.c), (99, tX.c)] [(4, [1, 11, 12, 13], [2])] [(4, vH.c)] [] [(4, [0])] 0
def V7 : Env := { Ib with nt := 28 }
theorem Lj : aQ V7 (qd 4 Tryz.f65) vH.c := vH.tells 704 (fun _ => by kernel_rfl) (fun _ _ _ _ => by kernel_rfl) (fun _ _ _ _ => by kernel_rfl) fun R f v N K => by kernel_rfl
theorem O6 : aI Tryz.prog 65 uJ.c := uJ.tells Tryz.func65 (show ∀ p, arun Ib Tryz.f65 (uJ.enc p).1 (uJ.enc p).2 = _ from fun p => by kernel_rfl) (qg [qd 4 Tryz.f65] (by kernel_rfl) ⟨lpT (by kernel_rfl) Lj, trivial⟩) (.cons Qh (.cons DF .nil))
def Od (a : SAir) : Option (Int) := uJ.val a
theorem aeE (a : SAir) : Od a = (KH a).get := uJ.val_eq (fun x => SAir.dec (aggL (gd x.1 0))) (fun p => by kernel_rfl) a
def Mj (rest : Int) : DT (Bool) :=
 .ite (decide (rest < (0 : Int))) (.leaf true) (.leaf (decide (rest > (262144 : Int))))
def u7 : FnM := flM (Int) (Bool) (fun p => ([.int .i64 p], [])) (fun p => Mj p) (fun r => .bool r) (fun _ => rfl)
def Va : Env := envM [] [] [] [] [] 0
theorem Qg : aI Tryz.prog 162 u7.c := u7.tells Tryz.func162 (show ∀ p, arun Va Tryz.f162 (u7.enc p).1 (u7.enc p).2 = _ from fun p => by kernel_rfl) p8 .nil
def Qf (rest : Int) : Option (Bool) := u7.val rest
theorem ae0 (rest : Int) : Qf rest = (Mj rest).get := u7.val_eq (fun x => intA (gd x.1 0)) (fun p => by kernel_rfl) rest
def EL (u2_0 : Sq Int) (u2_2 : Int) : DT (LR (Int) (Unit) (Int)) :=
 .ite (decide (u2_2 < ((u2_0.n : Nat) : Int))) (
 .ite (decide ((0 : Int) ≤ u2_2 ∧ u2_2 < ((u2_0.n : Nat) : Int))) (
 .bind (Qf (u2_0.f (Int.toNat u2_2))) fun z0 =>
 .ite z0 (
 .leaf (.r u2_2)) (
 .leaf (.next (wr (u2_2 + (1 : Int)))))) (
 .fail)) (
 .leaf (.l ()))
def vM : LpM := ⟨(Sq Int), Int, Unit, Int, fun p => ⟨[(0, sqA 1 (eI .i64) p.1), (1, .fn 162 []), (7, .int .i64 ((p.1.n : Nat) : Int)), (8, .int .i64 p.2)], [], 256⟩, fun f v => EL f v, false, (.exit 0), (fun _ _ => ⟨[(4, .undef)], [], 256⟩), .ret, (fun _ a => ⟨[(4, .int .i64 a)], [], 256⟩), c1, c1k⟩
def J9 (u2_0 : Sq Int) (u2_2 : Int) : Option ((Unit) ⊕ (Int)) := vM.val (u2_0, u2_2)
theorem adD (u2_0 : Sq Int) (u2_2 : Int) : J9 u2_0 u2_2 = fixO (fun v : Int => EL u2_0 v) u2_2 := vM.val_eq (fun x => (sqD dI (aget x.tm 0), intA (aget x.tm 8))) (fun p => by kernel_rfl) (u2_0, u2_2)
def K8 (s : Sq Int) : DT (Int) :=
 .sum (J9 s (0 : Int)) (fun _ =>
 .leaf (-1 : Int)) (fun y0 => .leaf y0)
def uS : FnM := flM ((Sq Int)) (Int) (fun p => ([sqA 1 (eI .i64) p, .fn 162 []], [])) (fun p => K8 p) (fun r => .int .i64 r) (fun _ => rfl)
def IE : Env := envM [(162, u7.c)] [(2, [0, 1, 7, 8], [4])] [(2, vM.c)] [] [(2, [])] 0
def XI : Env := { IE with nt := 19 }
theorem Lr : aQ XI (qd 2 Tryz.f144) vM.c := vM.tells 256 (fun _ => by kernel_rfl) (fun _ _ _ _ => by kernel_rfl) (fun _ _ _ _ => by kernel_rfl) fun R f v N K => by kernel_rfl
theorem Pn : aI Tryz.prog 144 uS.c := uS.tells Tryz.func144 (show ∀ p, arun IE Tryz.f144 (uS.enc p).1 (uS.enc p).2 = _ from fun p => by kernel_rfl) (qg [qd 2 Tryz.f144] (by kernel_rfl) ⟨lpT (by kernel_rfl) Lr, trivial⟩) (.cons Qg .nil)
def slices_IndexFunc (s : Sq Int) : Option (Int) := uS.val s
theorem aeP (s : Sq Int) : slices_IndexFunc s = (K8 s).get := uS.val_eq (fun x => sqD dI (gd x.1 0)) (fun p => by kernel_rfl) s
def Hl (s : Sq Int) : DT (Bool) :=
 .bind (slices_IndexFunc s) fun z0 =>
 .leaf (decide (z0 ≥ (0 : Int)))
def sV : FnM := flM ((Sq Int)) (Bool) (fun p => ([sqA 1 (eI .i64) p, .fn 162 []], [])) (fun p => Hl p) (fun r => .bool r) (fun _ => rfl)
def NJ : Env := envM [(144, uS.c)] [] [] [] [] 0
theorem Lp : aI Tryz.prog 105 sV.c := sV.tells Tryz.func105 (show ∀ p, arun NJ Tryz.f105 (sV.enc p).1 (sV.enc p).2 = _ from fun p => by kernel_rfl) p8 (.cons Pn .nil)
def slices_ContainsFunc (s : Sq Int) : Option (Bool) := sV.val s
theorem adC (s : Sq Int) : slices_ContainsFunc s = (Hl s).get := sV.val_eq (fun x => sqD dI (gd x.1 0)) (fun p => by kernel_rfl) s
def Ic (u2_0 : Sq Int) (u2_2 : Int) : DT (LR (Int) (Unit) (Unit)) :=
 .ite (decide (u2_2 < ((u2_0.n : Nat) : Int))) (
 .ite (decide (u2_2 > (0 : Int))) (
 .ite (decide ((0 : Int) ≤ u2_2 ∧ u2_2 < ((u2_0.n : Nat) : Int))) (
 .ite (decide ((0 : Int) ≤ (wr (u2_2 - (1 : Int))) ∧ (wr (u2_2 - (1 : Int))) < ((u2_0.n : Nat) : Int))) (
 .ite (decide ((u2_0.f (Int.toNat u2_2)) ≥ (u2_0.f (Int.toNat (wr (u2_2 - (1 : Int))))))) (
 .leaf (.r ())) (
 .leaf (.next (wr (u2_2 + (1 : Int)))))) (
 .fail)) (
 .fail)) (
 .leaf (.next (wr (u2_2 + (1 : Int)))))) (
 .leaf (.l ()))
def zk : LpM := ⟨(Sq Int), Int, Unit, Unit, fun p => ⟨[(0, sqA 1 (eI .i64) p.1), (5, .int .i64 ((p.1.n : Nat) : Int)), (6, .int .i64 p.2)], [], 256⟩, fun f v => Ic f v, false, (.exit 0), (fun _ _ => ⟨[(2, .undef)], [], 256⟩), .ret, (fun _ _ => ⟨[(2, .bool false)], [], 256⟩), c1, c1k⟩
def Qd (u2_0 : Sq Int) (u2_2 : Int) : Option ((Unit) ⊕ (Unit)) := zk.val (u2_0, u2_2)
theorem aeZ (u2_0 : Sq Int) (u2_2 : Int) : Qd u2_0 u2_2 = fixO (fun v : Int => Ic u2_0 v) u2_2 := zk.val_eq (fun x => (sqD dI (aget x.tm 0), intA (aget x.tm 6))) (fun p => by kernel_rfl) (u2_0, u2_2)
def Tz (l : Sq Int) : DT (Bool) :=
 .sum (Qd l (0 : Int)) (fun _ =>
 .leaf true) (fun _ => .leaf false)
def yQ : FnM := flM ((Sq Int)) (Bool) (fun p => ([sqA 1 (eI .i64) p], [])) (fun p => Tz p) (fun r => .bool r) (fun _ => rfl)
def Om : Env := envM [] [(2, [0, 5, 6], [2])] [(2, zk.c)] [] [(2, [])] 0
def abT : Env := { Om with nt := 24 }
theorem Qe : aQ abT (qd 2 Tryz.f163) zk.c := zk.tells 256 (fun _ => by kernel_rfl) (fun _ _ _ _ => by kernel_rfl) (fun _ _ _ _ => by kernel_rfl) fun R f v N K => by kernel_rfl
theorem Wq : aI Tryz.prog 163 yQ.c := yQ.tells Tryz.func163 (show ∀ p, arun Om Tryz.f163 (yQ.enc p).1 (yQ.enc p).2 = _ from fun p => by kernel_rfl) (qg [qd 2 Tryz.f163] (by kernel_rfl) ⟨lpT (by kernel_rfl) Qe, trivial⟩) .nil
def YZ (l : Sq Int) : Option (Bool) := yQ.val l
theorem agU (l : Sq Int) : YZ l = (Tz l).get := yQ.val_eq (fun x => sqD dI (gd x.1 0)) (fun p => by kernel_rfl) l
def acB (things number : Int) : DT (Bool) :=
 .ite (decide ((0 : Int) ≤ number)) (.leaf (decide (number < things))) (.leaf false)
def EB : FnM := flM (Int × Int) (Bool) (fun p => ([.int .i64 p.1, .int .i64 p.2], [])) (fun p => acB p.1 p.2) (fun r => .bool r) (fun _ => rfl)
def adS : Env := envM [] [] [] [] [] 0
theorem TA : aI Tryz.prog 180 EB.c := EB.tells Tryz.func180 (show ∀ p, arun adS Tryz.f180 (EB.enc p).1 (EB.enc p).2 = _ from fun p => by kernel_rfl) p8 .nil
def ac7 (things number : Int) : Option (Bool) := EB.val (things, number)
theorem aiF (things number : Int) : ac7 things number = (acB things number).get := EB.val_eq (fun x => (intA (gd x.1 0), intA (gd x.1 1))) (fun p => by kernel_rfl) (things, number)
def Ws (l : Sq qD) (i : Int) : DT (Bool) :=
 .ite (decide ((0 : Int) ≤ i ∧ i < ((l.n : Nat) : Int))) (
 .ite ((l.f (Int.toNat i)).Other == (-1 : Int)) (
 .leaf true) (
 .ite ((l.f (Int.toNat i)).Other != i) (
 .bind (ac7 ((l.n : Nat) : Int) (l.f (Int.toNat i)).Other) fun z0 =>
 .ite z0 (
 .ite (decide ((0 : Int) ≤ (l.f (Int.toNat i)).Other ∧ (l.f (Int.toNat i)).Other < ((l.n : Nat) : Int))) (.leaf ((l.f (Int.toNat (l.f (Int.toNat i)).Other)).Other == i)) (.fail)) (
 .leaf false)) (
 .leaf false))) (
 .fail)
def Ae : FnM := flM ((Sq qD) × Int) (Bool) (fun p => ([sqA 3 qD.enc p.1, .int .i64 p.2], [])) (fun p => Ws p.1 p.2) (fun r => .bool r) (fun _ => rfl)
def aaL : Env := envM [(180, EB.c)] [] [] [] [] 0
theorem Ya : aI Tryz.prog 164 Ae.c := Ae.tells Tryz.func164 (show ∀ p, arun aaL Tryz.f164 (Ae.enc p).1 (Ae.enc p).2 = _ from fun p => by kernel_rfl) p8 (.cons TA .nil)
def aaK (l : Sq qD) (i : Int) : Option (Bool) := Ae.val (l, i)
theorem ahm (l : Sq qD) (i : Int) : aaK l i = (Ws l i).get := Ae.val_eq (fun x => (sqD qD.dec (gd x.1 0), intA (gd x.1 1))) (fun p => by kernel_rfl) (l, i)
def Ol (l : Sq qD) (i : Int) : DT (Int) :=
 .ite (decide ((0 : Int) ≤ i ∧ i < ((l.n : Nat) : Int))) (
 .ite (decide ((l.f (Int.toNat i)).Road < (0 : Int))) (
 .leaf (4 : Int)) (
 .ite (decide ((((l.f (Int.toNat i)).Rests.n : Nat) : Int) < (2 : Int))) (
 .leaf (2 : Int)) (
 .ite (decide ((((l.f (Int.toNat i)).Rests.n : Nat) : Int) > (6 : Int))) (
 .leaf (2 : Int)) (
 .bind (slices_ContainsFunc (l.f (Int.toNat i)).Rests) fun z0 =>
 .ite z0 (
 .leaf (1 : Int)) (
 .bind (YZ (l.f (Int.toNat i)).Rests) fun z1 =>
 .ite (!z1) (
 .leaf (15 : Int)) (
 .bind (aaK l i) fun z2 =>
 .ite (!z2) (.leaf (15 : Int)) (.leaf (0 : Int)))))))) (
 .fail)
def vT : FnM := flM ((Sq qD) × Int) (Int) (fun p => ([sqA 3 qD.enc p.1, .int .i64 p.2], [])) (fun p => Ol p.1 p.2) (fun r => .int .i64 r) (fun _ => rfl)
def Wp : Env := envM [(105, sV.c), (163, yQ.c), (164, Ae.c)] [] [] [] [] 0
theorem R3 : aI Tryz.prog 137 vT.c := vT.tells Tryz.func137 (show ∀ p, arun Wp Tryz.f137 (vT.enc p).1 (vT.enc p).2 = _ from fun p => by kernel_rfl) p8 (.cons Lp (.cons Wq (.cons Ya .nil)))
def Tx (l : Sq qD) (i : Int) : Option (Int) := vT.val (l, i)
theorem afA (l : Sq qD) (i : Int) : Tx l i = (Ol l i).get := vT.val_eq (fun x => (sqD qD.dec (gd x.1 0), intA (gd x.1 1))) (fun p => by kernel_rfl) (l, i)
def KL (u4_0 : Sq qD) (u4_2 : Int) : DT (LR (Int) (Unit) (Int)) :=
 .ite (decide (u4_2 < ((u4_0.n : Nat) : Int))) (
 .bind (Tx u4_0 u4_2) fun z0 =>
 .ite (z0 != (0 : Int)) (
 .leaf (.r z0)) (
 .leaf (.next (wr (u4_2 + (1 : Int)))))) (
 .leaf (.l ()))
def Ci : LpM := ⟨(Sq qD), Int, Unit, Int, fun p => ⟨[(0, sqA 3 qD.enc p.1), (9, .int .i64 ((p.1.n : Nat) : Int)), (10, .int .i64 p.2)], [], 512⟩, fun f v => KL f v, false, (.exit 0), (fun _ _ => ⟨[(2, .undef)], [], 512⟩), .ret, (fun _ a => ⟨[(2, .int .i64 a)], [], 512⟩), c1, c1k⟩
def Wo (u4_0 : Sq qD) (u4_2 : Int) : Option ((Unit) ⊕ (Int)) := Ci.val (u4_0, u4_2)
theorem agk (u4_0 : Sq qD) (u4_2 : Int) : Wo u4_0 u4_2 = fixO (fun v : Int => KL u4_0 v) u4_2 := Ci.val_eq (fun x => (sqD qD.dec (aget x.tm 0), intA (aget x.tm 10))) (fun p => by kernel_rfl) (u4_0, u4_2)
def YX (l : Sq qD) : DT (Int) :=
 .ite (decide (((l.n : Nat) : Int) > (16 : Int))) (
 .leaf (2 : Int)) (
 .sum (Wo l (0 : Int)) (fun _ =>
 .leaf (0 : Int)) (fun y0 => .leaf y0))
def Cj : FnM := flM ((Sq qD)) (Int) (fun p => ([sqA 3 qD.enc p], [])) (fun p => YX p) (fun r => .int .i64 r) (fun _ => rfl)
def Tw : Env := envM [(137, vT.c)] [(4, [0, 9, 10], [2])] [(4, Ci.c)] [] [(4, [])] 0
def adQ : Env := { Tw with nt := 20 }
theorem U9 : aQ adQ (qd 4 Tryz.f100) Ci.c := Ci.tells 512 (fun _ => by kernel_rfl) (fun _ _ _ _ => by kernel_rfl) (fun _ _ _ _ => by kernel_rfl) fun R f v N K => by kernel_rfl
theorem ZT : aI Tryz.prog 100 Cj.c := Cj.tells Tryz.func100 (show ∀ p, arun Tw Tryz.f100 (Cj.enc p).1 (Cj.enc p).2 = _ from fun p => by kernel_rfl) (qg [qd 4 Tryz.f100] (by kernel_rfl) ⟨lpT (by kernel_rfl) U9, trivial⟩) (.cons R3 .nil)
def acA (l : Sq qD) : Option (Int) := Cj.val l
theorem ahX (l : Sq qD) : acA l = (YX l).get := Cj.val_eq (fun x => sqD qD.dec (gd x.1 0)) (fun p => by kernel_rfl) l
def DU (u5_0 : Sq qD) (u5_2 : Sq qA) (u5_3 : Sq qC) (u5_4 : Sq SFan) (u5_5 : Int) : DT (LR (Int) (Unit) (Unit)) :=
 .ite (decide (u5_5 < ((u5_0.n : Nat) : Int))) (
 .ite (decide ((0 : Int) ≤ u5_5 ∧ u5_5 < ((u5_0.n : Nat) : Int))) (
 .bind (Gs (SAir.mk (qI.mk u5_2 u5_3) u5_4 u5_0) (u5_0.f (Int.toNat u5_5)).Road) fun z0 =>
 .ite (!z0) (
 .leaf (.r ())) (
 .leaf (.next (wr (u5_5 + (1 : Int)))))) (
 .fail)) (
 .leaf (.l ()))
def uU : LpM := ⟨(Sq qD) × (Sq qA) × (Sq qC) × (Sq SFan), Int, Unit, Unit, fun p => ⟨[(1, .ptr 0 0), (13, sqA 3 qD.enc p.1.1), (14, .int .i64 ((p.1.1.n : Nat) : Int)), (15, .int .i64 p.2)], [(0, .var [sqA 2 qA.enc p.1.2.1, sqA 10 qC.enc p.1.2.2.1, sqA 4 SFan.enc p.1.2.2.2, sqA 3 qD.enc p.1.1])], 896⟩, fun f v => DU f.1 f.2.1 f.2.2.1 f.2.2.2 v, false, (.exit 0), (fun x _ => ⟨[(2, .undef)], [(0, blkS x 0)], 896⟩), .ret, (fun x _ => ⟨[(2, .int .i64 (4 : Int))], [(0, blkS x 0)], 896⟩), c1, c1k⟩
def Ia (u5_0 : Sq qD) (u5_2 : Sq qA) (u5_3 : Sq qC) (u5_4 : Sq SFan) (u5_5 : Int) : Option ((Unit) ⊕ (Unit)) := uU.val ((u5_0, u5_2, u5_3, u5_4), u5_5)
theorem ac4 (u5_0 : Sq qD) (u5_2 : Sq qA) (u5_3 : Sq qC) (u5_4 : Sq SFan) (u5_5 : Int) : Ia u5_0 u5_2 u5_3 u5_4 u5_5 = fixO (fun v : Int => DU u5_0 u5_2 u5_3 u5_4 v) u5_5 := uU.val_eq (fun x => ((sqD qD.dec (aget x.tm 13), sqD qA.dec (cellS x 0 0), sqD qC.dec (cellS x 0 1), sqD SFan.dec (cellS x 0 2)), intA (aget x.tm 15))) (fun p => by kernel_rfl) ((u5_0, u5_2, u5_3, u5_4), u5_5)
def Jm (a : SAir) : DT (Int) :=
 .bind (acA a.Doors) fun z1 =>
 .ite (z1 != (0 : Int)) (
 .leaf z1) (
 .sum (Ia a.Doors a.Mine.Places a.Mine.Roads a.Fans (0 : Int)) (fun _ =>
 .leaf (0 : Int)) (fun _ => .leaf (4 : Int)))
def ug : FnM := flM (SAir) (Int) (fun p => ([.agg (SAir.enc p)], [])) (fun p => Jm p) (fun r => .int .i64 r) (fun _ => rfl)
def GH : Env := envM [(100, Cj.c), (99, tX.c)] [(5, [1, 13, 14, 15], [2])] [(5, uU.c)] [] [(5, [0])] 0
def U5 : Env := { GH with nt := 25 }
theorem Kh : aQ U5 (qd 5 Tryz.f66) uU.c := uU.tells 896 (fun _ => by kernel_rfl) (fun _ _ _ _ => by kernel_rfl) (fun _ _ _ _ => by kernel_rfl) fun R f v N K => by kernel_rfl
theorem Ni : aI Tryz.prog 66 ug.c := ug.tells Tryz.func66 (show ∀ p, arun GH Tryz.f66 (ug.enc p).1 (ug.enc p).2 = _ from fun p => by kernel_rfl) (qg [qd 5 Tryz.f66] (by kernel_rfl) ⟨lpT (by kernel_rfl) Kh, trivial⟩) (.cons ZT (.cons DF .nil))
def Me (a : SAir) : Option (Int) := ug.val a
theorem aek (a : SAir) : Me a = (Jm a).get := ug.val_eq (fun x => SAir.dec (aggL (gd x.1 0))) (fun p => by kernel_rfl) a
def Ti (a : SAir) : DT (Int) :=
 .bind (Yf a.Mine) fun z0 =>
 .ite (z0 != (0 : Int)) (
 .leaf z0) (
 .bind (Od a) fun z1 =>
 .ite (z1 != (0 : Int)) (
 .leaf z1) (
 .bind (Me a) fun z2 =>
 .leaf z2))
def vw : FnM := flM (SAir) (Int) (fun p => ([.agg (SAir.enc p)], [])) (fun p => Ti p) (fun r => .int .i64 r) (fun _ => rfl)
def ZM : Env := envM [(64, zM.c), (65, uJ.c), (66, ug.c)] [] [] [] [] 0
theorem ET : aI Tryz.prog 37 vw.c := vw.tells Tryz.func37 (show ∀ p, arun ZM Tryz.f37 (vw.enc p).1 (vw.enc p).2 = _ from fun p => by kernel_rfl) p8 (.cons Ov (.cons O6 (.cons Ni .nil)))
def KC (a : SAir) : Option (Int) := vw.val a
theorem agP (a : SAir) : KC a = (Ti a).get := vw.val_eq (fun x => SAir.dec (aggL (gd x.1 0))) (fun p => by kernel_rfl) a
def FN (u4_0 : Sq Int) (_u4_2 : Sq qA) (_u4_3 : Sq qC) (_u4_4 : Sq SFan) (_u4_5 : Sq qD) (_u4_6 : Sq Int) (u4_7 : Int) : DT (LR (Int) (Unit) (Unit)) :=
 .ite (decide (u4_7 < ((u4_0.n : Nat) : Int))) (
 .ite (decide ((0 : Int) ≤ u4_7 ∧ u4_7 < ((u4_0.n : Nat) : Int))) (
 .bind (IQ (u4_0.f (Int.toNat u4_7)) (-1 : Int) (2 : Int)) fun z0 =>
 .ite (!z0) (
 .leaf (.r ())) (
 .leaf (.next (wr (u4_7 + (1 : Int)))))) (
 .fail)) (
 .leaf (.l ()))
def wW : LpM := ⟨(Sq Int) × (Sq qA) × (Sq qC) × (Sq SFan) × (Sq qD) × (Sq Int), Int, Unit, Unit, fun p => ⟨[(2, .ptr 0 0), (3, .ptr 64 0), (26, sqA 1 (eI .i64) p.1.1), (27, .int .i64 ((p.1.1.n : Nat) : Int)), (28, .int .i64 p.2)], [(0, .var [sqA 2 qA.enc p.1.2.1, sqA 10 qC.enc p.1.2.2.1, sqA 4 SFan.enc p.1.2.2.2.1, sqA 3 qD.enc p.1.2.2.2.2.1]), (64, .var [sqA 1 (eI .i64) p.1.1, sqA 1 (eI .i64) p.1.2.2.2.2.2])], 1536⟩, fun f v => FN f.1 f.2.1 f.2.2.1 f.2.2.2.1 f.2.2.2.2.1 f.2.2.2.2.2 v, false, (.exit 0), (fun x _ => ⟨[(2, .ptr 0 0), (3, .ptr 64 0), (4, .undef)], [(0, blkS x 0), (64, blkS x 64)], 1536⟩), .ret, (fun x _ => ⟨[(2, .ptr 0 0), (3, .ptr 64 0), (4, .bool false)], [(0, blkS x 0), (64, blkS x 64)], 1536⟩), c1, c1k⟩
def Md (u4_0 : Sq Int) (u4_2 : Sq qA) (u4_3 : Sq qC) (u4_4 : Sq SFan) (u4_5 : Sq qD) (u4_6 : Sq Int) (u4_7 : Int) : Option ((Unit) ⊕ (Unit)) := wW.val ((u4_0, u4_2, u4_3, u4_4, u4_5, u4_6), u4_7)
theorem aej (u4_0 : Sq Int) (u4_2 : Sq qA) (u4_3 : Sq qC) (u4_4 : Sq SFan) (u4_5 : Sq qD) (u4_6 : Sq Int) (u4_7 : Int) : Md u4_0 u4_2 u4_3 u4_4 u4_5 u4_6 u4_7 = fixO (fun v : Int => FN u4_0 u4_2 u4_3 u4_4 u4_5 u4_6 v) u4_7 := wW.val_eq (fun x => ((sqD dI (aget x.tm 26), sqD qA.dec (cellS x 0 0), sqD qC.dec (cellS x 0 1), sqD SFan.dec (cellS x 0 2), sqD qD.dec (cellS x 0 3), sqD dI (cellS x 64 1)), intA (aget x.tm 28))) (fun p => by kernel_rfl) ((u4_0, u4_2, u4_3, u4_4, u4_5, u4_6), u4_7)
def EY (u10_0 : Sq Int) (_u10_2 : Sq qA) (_u10_3 : Sq qC) (_u10_4 : Sq SFan) (u10_5 : Sq qD) (u10_6 : Int) : DT (LR (Int) (Unit) (Unit)) :=
 .ite (decide (u10_6 < ((u10_0.n : Nat) : Int))) (
 .ite (decide ((0 : Int) ≤ u10_6 ∧ u10_6 < ((u10_0.n : Nat) : Int))) (
 .ite (decide ((0 : Int) ≤ u10_6 ∧ u10_6 < ((u10_5.n : Nat) : Int))) (
 .bind (IQ (u10_0.f (Int.toNat u10_6)) (-1 : Int) (wr ((((u10_5.f (Int.toNat u10_6)).Rests.n : Nat) : Int) - (1 : Int)))) fun z1 =>
 .ite (!z1) (
 .leaf (.r ())) (
 .leaf (.next (wr (u10_6 + (1 : Int)))))) (
 .fail)) (
 .fail)) (
 .leaf (.l ()))
def wz : LpM := ⟨(Sq Int) × (Sq qA) × (Sq qC) × (Sq SFan) × (Sq qD), Int, Unit, Unit, fun p => ⟨[(2, .ptr 0 0), (37, sqA 1 (eI .i64) p.1.1), (38, .int .i64 ((p.1.1.n : Nat) : Int)), (39, .int .i64 p.2)], [(0, .var [sqA 2 qA.enc p.1.2.1, sqA 10 qC.enc p.1.2.2.1, sqA 4 SFan.enc p.1.2.2.2.1, sqA 3 qD.enc p.1.2.2.2.2])], 1792⟩, fun f v => EY f.1 f.2.1 f.2.2.1 f.2.2.2.1 f.2.2.2.2 v, false, (.exit 2), (fun x _ => ⟨[(4, .undef)], [(0, blkS x 0)], 1792⟩), .ret, (fun x _ => ⟨[(4, .bool false)], [(0, blkS x 0)], 1792⟩), c1, c1k⟩
def KG (u10_0 : Sq Int) (u10_2 : Sq qA) (u10_3 : Sq qC) (u10_4 : Sq SFan) (u10_5 : Sq qD) (u10_6 : Int) : Option ((Unit) ⊕ (Unit)) := wz.val ((u10_0, u10_2, u10_3, u10_4, u10_5), u10_6)
theorem adM (u10_0 : Sq Int) (u10_2 : Sq qA) (u10_3 : Sq qC) (u10_4 : Sq SFan) (u10_5 : Sq qD) (u10_6 : Int) : KG u10_0 u10_2 u10_3 u10_4 u10_5 u10_6 = fixO (fun v : Int => EY u10_0 u10_2 u10_3 u10_4 u10_5 v) u10_6 := wz.val_eq (fun x => ((sqD dI (aget x.tm 37), sqD qA.dec (cellS x 0 0), sqD qC.dec (cellS x 0 1), sqD SFan.dec (cellS x 0 2), sqD qD.dec (cellS x 0 3)), intA (aget x.tm 39))) (fun p => by kernel_rfl) ((u10_0, u10_2, u10_3, u10_4, u10_5), u10_6)
def Oc (a : SAir) (s : qz) : DT (Bool) :=
 .ite (((s.Fans.n : Nat) : Int) != ((a.Fans.n : Nat) : Int)) (
 .leaf false) (
 .ite (((s.Doors.n : Nat) : Int) != ((a.Doors.n : Nat) : Int)) (
 .leaf false) (
 .sum (Md s.Fans a.Mine.Places a.Mine.Roads a.Fans a.Doors s.Doors (0 : Int)) (fun _ =>
 .sum (KG s.Doors a.Mine.Places a.Mine.Roads a.Fans a.Doors (0 : Int)) (fun _ =>
 .leaf true) (fun _ => .leaf false)) (fun _ => .leaf false)))
def vQ : FnM := flM (SAir × qz) (Bool) (fun p => ([.agg (SAir.enc p.1), .agg (qz.enc p.2)], [])) (fun p => Oc p.1 p.2) (fun r => .bool r) (fun _ => rfl)
def KF : Env := envM [(101, vI.c)] [(4, [2, 3, 26, 27, 28], [2, 3, 4]), (10, [2, 37, 38, 39], [4])] [(4, wW.c), (10, wz.c)] [] [(4, [0, 64]), (10, [0])] 0
def Ob : Env := { KF with nt := 56 }
theorem Nh : aQ Ob (qd 4 Tryz.f67) wW.c := wW.tells 1536 (fun _ => by kernel_rfl) (fun _ _ _ _ => by kernel_rfl) (fun _ _ _ _ => by kernel_rfl) fun R f v N K => by kernel_rfl
theorem Mc : aQ Ob (qd 10 Tryz.f67) wz.c := wz.tells 1792 (fun _ => by kernel_rfl) (fun _ _ _ _ => by kernel_rfl) (fun _ _ _ _ => by kernel_rfl) fun R f v N K => by kernel_rfl
theorem RV : aI Tryz.prog 67 vQ.c := vQ.tells Tryz.func67 (show ∀ p, arun KF Tryz.f67 (vQ.enc p).1 (vQ.enc p).2 = _ from fun p => by kernel_rfl) (qg [qd 4 Tryz.f67, qd 10 Tryz.f67] (by kernel_rfl) ⟨lpT (by kernel_rfl) Nh, ⟨lpT (by kernel_rfl) Mc, trivial⟩⟩) (.cons Jq .nil)
def Tk (a : SAir) (s : qz) : Option (Bool) := vQ.val (a, s)
theorem afw (a : SAir) (s : qz) : Tk a s = (Oc a s).get := vQ.val_eq (fun x => (SAir.dec (aggL (gd x.1 0)), qz.dec (aggL (gd x.1 1)))) (fun p => by kernel_rfl) (a, s)
def Tj (a : SAir) (s : qz) : DT (Bool) :=
 .bind (KC a) fun z0 =>
 .ite (z0 == (0 : Int)) (
 .bind (Tk a s) fun z1 =>
 .leaf z1) (
 .leaf false)
def uD : FnM := flM (SAir × qz) (Bool) (fun p => ([.agg (SAir.enc p.1), .agg (qz.enc p.2)], [])) (fun p => Tj p.1 p.2) (fun r => .bool r) (fun _ => rfl)
def ZN : Env := envM [(37, vw.c), (67, vQ.c)] [] [] [] [] 0
theorem BN : aI Tryz.prog 38 uD.c := uD.tells Tryz.func38 (show ∀ p, arun ZN Tryz.f38 (uD.enc p).1 (uD.enc p).2 = _ from fun p => by kernel_rfl) p8 (.cons ET (.cons RV .nil))
def GA (a : SAir) (s : qz) : Option (Bool) := uD.val (a, s)
theorem agQ (a : SAir) (s : qz) : GA a s = (Tj a s).get := uD.val_eq (fun x => (SAir.dec (aggL (gd x.1 0)), qz.dec (aggL (gd x.1 1)))) (fun p => by kernel_rfl) (a, s)
def Zi (s : qB) (low high : Int) : DT (Bool) :=
 .ite (decide (low ≤ s.Low)) (
 .ite (decide (s.Low ≤ s.High)) (.leaf (decide (s.High ≤ high))) (.leaf false)) (
 .leaf false)
def CJ : FnM := flM (qB × Int × Int) (Bool) (fun p => ([.agg (qB.enc p.1), .int .i64 p.2.1, .int .i64 p.2.2], [])) (fun p => Zi p.1 p.2.1 p.2.2) (fun r => .bool r) (fun _ => rfl)
def Ym (s : qB) (low high : Int) : Option (Bool) := CJ.val (s, low, high)
def Ii (u10_0 : Sq qA) (u10_1 : Sq qC) (u10_2 : Int) : DT (LR (Int) (Unit) (Int)) :=
 .ite (decide (u10_2 < ((u10_1.n : Nat) : Int))) (
 .ite (decide ((0 : Int) ≤ u10_2 ∧ u10_2 < ((u10_1.n : Nat) : Int))) (
 .ite (decide ((u10_1.f (Int.toNat u10_2)).From < (0 : Int))) (
 .leaf (.r (4 : Int))) (
 .ite (decide ((u10_1.f (Int.toNat u10_2)).From ≥ ((u10_0.n : Nat) : Int))) (
 .leaf (.r (4 : Int))) (
 .ite (decide ((u10_1.f (Int.toNat u10_2)).To < (0 : Int))) (
 .leaf (.r (4 : Int))) (
 .ite (decide ((u10_1.f (Int.toNat u10_2)).To ≥ ((u10_0.n : Nat) : Int))) (
 .leaf (.r (4 : Int))) (
 .ite ((u10_1.f (Int.toNat u10_2)).From == (u10_1.f (Int.toNat u10_2)).To) (
 .leaf (.r (4 : Int))) (
 .ite (decide ((u10_1.f (Int.toNat u10_2)).Length < (1 : Int))) (
 .leaf (.r (1 : Int))) (
 .ite (decide ((u10_1.f (Int.toNat u10_2)).Length > (100000 : Int))) (
 .leaf (.r (1 : Int))) (
 .ite (decide ((u10_1.f (Int.toNat u10_2)).Area < (1 : Int))) (
 .leaf (.r (1 : Int))) (
 .ite (decide ((u10_1.f (Int.toNat u10_2)).Area > (1000 : Int))) (
 .leaf (.r (1 : Int))) (
 .bind (Ym (u10_1.f (Int.toNat u10_2)).Rest (1 : Int) (262144 : Int)) fun z0 =>
 .ite (!z0) (
 .leaf (.r (1 : Int))) (
 .bind (Ym (u10_1.f (Int.toNat u10_2)).Lift (-2199023255552 : Int) (2199023255552 : Int)) fun z1 =>
 .ite (!z1) (
 .leaf (.r (1 : Int))) (
 .leaf (.next (wr (u10_2 + (1 : Int)))))))))))))))) (
 .fail)) (
 .leaf (.l ()))
def zn : LpM := ⟨(Sq qA) × (Sq qC), Int, Unit, Int, fun p => ⟨[(1, .ptr 0 0), (5, .int .i64 p.2)], [(0, .var [sqA 2 qA.enc p.1.1, sqA 10 qC.enc p.1.2])], 960⟩, fun f v => Ii f.1 f.2 v, false, (.exit 2), (fun x _ => ⟨[(2, .undef)], [(0, blkS x 0)], 960⟩), .ret, (fun x a => ⟨[(2, .int .i64 a)], [(0, blkS x 0)], 960⟩), c1, c1k⟩
def JH (_u6_0 : Int) (_u6_1 _u6_2 : Bool) (u6_3 : Sq qH) (u6_4 : Int) : DT (LR (Int) (Unit) (Int)) :=
 .ite (decide (u6_4 < ((u6_3.n : Nat) : Int))) (
 .ite (decide ((0 : Int) ≤ u6_4 ∧ u6_4 < ((u6_3.n : Nat) : Int))) (
 .ite (decide ((u6_3.f (Int.toNat u6_4)).Flow < (-1048576 : Int))) (
 .leaf (.r (1 : Int))) (
 .ite (decide ((u6_3.f (Int.toNat u6_4)).Flow > (1048576 : Int))) (
 .leaf (.r (1 : Int))) (
 .ite (decide ((u6_3.f (Int.toNat u6_4)).Pressure < (0 : Int))) (
 .leaf (.r (1 : Int))) (
 .ite (decide ((u6_3.f (Int.toNat u6_4)).Pressure > (2199023255552 : Int))) (
 .leaf (.r (1 : Int))) (
 .ite (decide (u6_4 > (0 : Int))) (
 .ite (decide ((0 : Int) ≤ (wr (u6_4 - (1 : Int))) ∧ (wr (u6_4 - (1 : Int))) < ((u6_3.n : Nat) : Int))) (
 .ite (decide ((u6_3.f (Int.toNat u6_4)).Flow ≤ (u6_3.f (Int.toNat (wr (u6_4 - (1 : Int))))).Flow)) (
 .leaf (.r (14 : Int))) (
 .ite (decide ((0 : Int) ≤ (wr (u6_4 - (1 : Int))) ∧ (wr (u6_4 - (1 : Int))) < ((u6_3.n : Nat) : Int))) (
 .ite (decide ((u6_3.f (Int.toNat u6_4)).Pressure > (u6_3.f (Int.toNat (wr (u6_4 - (1 : Int))))).Pressure)) (
 .leaf (.r (14 : Int))) (
 .leaf (.next (wr (u6_4 + (1 : Int)))))) (
 .fail))) (
 .fail)) (
 .leaf (.next (wr (u6_4 + (1 : Int)))))))))) (
 .fail)) (
 .leaf (.l ()))
def Bh : LpM := ⟨Int × Bool × Bool × (Sq qH), Int, Unit, Int, fun p => ⟨[(1, .ptr 0 0), (3, .int .i64 p.2)], [(0, .var [.int .i64 p.1.1, .bool p.1.2.1, .bool p.1.2.2.1, sqA 2 qH.enc p.1.2.2.2])], 1152⟩, fun f v => JH f.1 f.2.1 f.2.2.1 f.2.2.2 v, false, (.exit 0), (fun x _ => ⟨[(2, .undef)], [(0, blkS x 0)], 1152⟩), .ret, (fun x a => ⟨[(2, .int .i64 a)], [(0, blkS x 0)], 1152⟩), c1, c1k⟩
def Ua (u6_0 : Int) (u6_1 u6_2 : Bool) (u6_3 : Sq qH) (u6_4 : Int) : Option ((Unit) ⊕ (Int)) := Bh.val ((u6_0, u6_1, u6_2, u6_3), u6_4)
def Xe (f : SFan) : DT (Int) :=
 .ite (decide (f.Road < (0 : Int))) (
 .leaf (4 : Int)) (
 .ite (decide (((f.Curve.n : Nat) : Int) < (1 : Int))) (
 .leaf (2 : Int)) (
 .ite (decide (((f.Curve.n : Nat) : Int) > (8 : Int))) (
 .leaf (2 : Int)) (
 .sum (Ua f.Road f.Back f.Auxiliary f.Curve (0 : Int)) (fun _ =>
 .leaf (0 : Int)) (fun y0 => .leaf y0))))
def Ao : FnM := flM (SFan) (Int) (fun p => ([.agg (SFan.enc p)], [])) (fun p => Xe p) (fun r => .int .i64 r) (fun _ => rfl)
def abf (f : SFan) : Option (Int) := Ao.val f
def JK (_u7_0 : Sq qA) (u7_1 : Sq qC) (u7_2 : Sq SFan) (_u7_3 : Sq qD) (u7_4 : Int) : DT (LR (Int) (Unit) (Int)) :=
 .ite (decide (u7_4 < ((u7_2.n : Nat) : Int))) (
 .ite (decide ((0 : Int) ≤ u7_4 ∧ u7_4 < ((u7_2.n : Nat) : Int))) (
 .bind (abf (u7_2.f (Int.toNat u7_4))) fun z0 =>
 .ite (z0 != (0 : Int)) (
 .leaf (.r z0)) (
 .ite (decide ((0 : Int) ≤ u7_4 ∧ u7_4 < ((u7_2.n : Nat) : Int))) (
 .ite (decide ((u7_2.f (Int.toNat u7_4)).Road ≥ ((u7_1.n : Nat) : Int))) (
 .leaf (.r (4 : Int))) (
 .leaf (.next (wr (u7_4 + (1 : Int)))))) (
 .fail))) (
 .fail)) (
 .leaf (.l ()))
def Bn : LpM := ⟨(Sq qA) × (Sq qC) × (Sq SFan) × (Sq qD), Int, Unit, Int, fun p => ⟨[(1, .ptr 0 0), (4, .int .i64 p.2)], [(0, .var [sqA 2 qA.enc p.1.1, sqA 10 qC.enc p.1.2.1, sqA 4 SFan.enc p.1.2.2.1, sqA 3 qD.enc p.1.2.2.2])], 1024⟩, fun f v => JK f.1 f.2.1 f.2.2.1 f.2.2.2 v, false, (.exit 0), (fun x _ => ⟨[(1, .ptr 0 0), (2, .undef)], [(0, blkS x 0)], 1024⟩), .ret, (fun x a => ⟨[(1, .ptr 0 0), (2, .int .i64 a)], [(0, blkS x 0)], 1024⟩), c1, c1k⟩
end
end Go.Proofs.YtimkpfnbkclclaaGreat.Ab
