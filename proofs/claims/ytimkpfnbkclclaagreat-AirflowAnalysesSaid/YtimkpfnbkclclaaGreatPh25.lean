/- A part of the proof, what is needed of it. -/
import Derived.Test.YtimkpfnbkclclaaGreatPh09
namespace Go.Proofs.YtimkpfnbkclclaaGreat.Ab
noncomputable section
open Go
attribute [local irreducible] arun
def Ir (u2_0 : Sq Int) (u2_1 : Int) : DT (LR (Int) (Unit) (Unit)) :=
 .ite (decide (u2_1 < ((u2_0.n : Nat) : Int))) (
 .ite (decide ((0 : Int) ≤ u2_1 ∧ u2_1 < ((u2_0.n : Nat) : Int))) (
 .ite (decide ((u2_0.f (Int.toNat u2_1)) < (-70368744177664 : Int))) (
 .leaf (.r ())) (
 .ite (decide ((0 : Int) ≤ u2_1 ∧ u2_1 < ((u2_0.n : Nat) : Int))) (
 .ite (decide ((u2_0.f (Int.toNat u2_1)) > (70368744177664 : Int))) (
 .leaf (.r ())) (
 .leaf (.next (wr (u2_1 + (1 : Int)))))) (
 .fail))) (
 .fail)) (
 .leaf (.l ()))
def zD : LpM := ⟨(Sq Int), Int, Unit, Unit, fun p => ⟨[(0, sqA 1 (eI .i64) p.1), (3, .int .i64 p.2)], [], 128⟩, fun f v => Ir f v, false, (.exit 0), (fun _ _ => ⟨[(2, .undef)], [], 128⟩), .ret, (fun _ _ => ⟨[(2, .bool false)], [], 128⟩), c1, c1k⟩
def Q6 (u2_0 : Sq Int) (u2_1 : Int) : Option ((Unit) ⊕ (Unit)) := zD.val (u2_0, u2_1)
theorem afd (u2_0 : Sq Int) (u2_1 : Int) : Q6 u2_0 u2_1 = fixO (fun v : Int => Ir u2_0 v) u2_1 := zD.val_eq (fun x => (sqD dI (aget x.tm 0), intA (aget x.tm 3))) (fun p => by kernel_rfl) (u2_0, u2_1)
def Ut (l : Sq Int) : DT (Bool) :=
 .sum (Q6 l (0 : Int)) (fun _ =>
 .leaf true) (fun _ => .leaf false)
def wK : FnM := flM ((Sq Int)) (Bool) (fun p => ([sqA 1 (eI .i64) p], [])) (fun p => Ut p) (fun r => .bool r) (fun _ => rfl)
def OJ : Env := envM [] [(2, [0, 3], [2])] [(2, zD.c)] [] [(2, [])] 0
def acf : Env := { OJ with nt := 22 }
theorem Q7 : aQ acf (qd 2 Tryz.f114) zD.c := zD.tells 128 (fun _ => by kernel_rfl) (fun _ _ _ _ => by kernel_rfl) (fun _ _ _ _ => by kernel_rfl) fun R f v N K => by kernel_rfl
theorem K4 : aI Tryz.prog 114 wK.c := wK.tells Tryz.func114 (show ∀ p, arun OJ Tryz.f114 (wK.enc p).1 (wK.enc p).2 = _ from fun p => by kernel_rfl) (qg [qd 2 Tryz.f114] (by kernel_rfl) ⟨lpT (by kernel_rfl) Q7, trivial⟩) .nil
def K3 (l : Sq Int) : Option (Bool) := wK.val l
theorem ag5 (l : Sq Int) : K3 l = (Ut l).get := wK.val_eq (fun x => sqD dI (gd x.1 0)) (fun p => by kernel_rfl) l
def KR (_u6_0 : Sq qA) (u6_1 : Sq qC) (u6_2 : Sq Bool) (u6_3 : Bool) (u6_4 : Int) : DT (LR ((Sq Bool) × Bool × Int) (Bool × (Sq Bool)) (Unit)) :=
 .ite (decide (u6_4 < ((u6_1.n : Nat) : Int))) (
 .ite (decide ((0 : Int) ≤ u6_4 ∧ u6_4 < ((u6_1.n : Nat) : Int))) (
 .ite (!(u6_1.f (Int.toNat u6_4)).Closed) (
 .ite (decide ((0 : Int) ≤ (u6_1.f (Int.toNat u6_4)).From ∧ (u6_1.f (Int.toNat u6_4)).From < ((u6_2.n : Nat) : Int))) (
 .ite (decide ((0 : Int) ≤ (u6_1.f (Int.toNat u6_4)).To ∧ (u6_1.f (Int.toNat u6_4)).To < ((u6_2.n : Nat) : Int))) (
 .ite (!((u6_2.f (Int.toNat (u6_1.f (Int.toNat u6_4)).From)) == (u6_2.f (Int.toNat (u6_1.f (Int.toNat u6_4)).To)))) (
 .ite (decide ((0 : Int) ≤ (u6_1.f (Int.toNat u6_4)).From ∧ (u6_1.f (Int.toNat u6_4)).From < ((u6_2.n : Nat) : Int))) (
 .ite (decide ((0 : Int) ≤ (u6_1.f (Int.toNat u6_4)).To ∧ (u6_1.f (Int.toNat u6_4)).To < ((u6_2.n : Nat) : Int))) (
 .leaf (.next ((Sq.mk u6_2.n (fun k0 => (cond (Nat.beq k0 (Int.toNat (u6_1.f (Int.toNat u6_4)).To)) true (cond (Nat.beq k0 (Int.toNat (u6_1.f (Int.toNat u6_4)).From)) true (u6_2.f k0))))), true, (wr (u6_4 + (1 : Int)))))) (
 .fail)) (
 .fail)) (
 .leaf (.next (u6_2, u6_3, (wr (u6_4 + (1 : Int))))))) (
 .fail)) (
 .fail)) (
 .leaf (.next (u6_2, u6_3, (wr (u6_4 + (1 : Int))))))) (
 .fail)) (
 .leaf (.l (u6_3, u6_2)))
def CB : LpM := ⟨(Sq qA) × (Sq qC), (Sq Bool) × Bool × Int, Bool × (Sq Bool), Unit, fun p => ⟨[(2, .ptr 0 0), (5, .own 192 0), (6, .bool p.2.2.1), (7, .int .i64 p.2.2.2)], [(0, .var [sqA 2 qA.enc p.1.1, sqA 10 qC.enc p.1.2]), (192, rowA 0 1 4 eO p.2.1)], 576⟩, fun f v => KR f.1 f.2 v.1 v.2.1 v.2.2, true, (.exit 2), (fun x a => ⟨[(2, .ptr 0 0), (5, .own 192 0), (6, .bool a.1)], [(0, blkS x 0), (192, rowA 0 1 4 eO a.2)], 576⟩), .ret, (fun _ _ => ⟨[], [], 0⟩), c1, c1k⟩
def WX (u6_0 : Sq qA) (u6_1 : Sq qC) (u6_2 : Sq Bool) (u6_3 : Bool) (u6_4 : Int) : Option ((Bool × (Sq Bool)) ⊕ (Unit)) := CB.val ((u6_0, u6_1), (u6_2, u6_3, u6_4))
theorem agv (u6_0 : Sq qA) (u6_1 : Sq qC) (u6_2 : Sq Bool) (u6_3 : Bool) (u6_4 : Int) : WX u6_0 u6_1 u6_2 u6_3 u6_4 = fixO (fun v : (Sq Bool) × Bool × Int => KR u6_0 u6_1 v.1 v.2.1 v.2.2) (u6_2, u6_3, u6_4) := CB.val_eq (fun x => ((sqD qA.dec (cellS x 0 0), sqD qC.dec (cellS x 0 1)), (sqB dO (blkS x 192), pU (aget x.tm 6), intA (aget x.tm 7)))) (fun p => by kernel_rfl) ((u6_0, u6_1), (u6_2, u6_3, u6_4))
def KQ (u3_0 : Sq qA) (u3_1 : Sq qC) (u3_2 : Sq Bool) (u3_3 : Bool) : DT (LR ((Sq Bool) × Bool) ((Sq Bool)) (Unit)) :=
 .ite u3_3 (
 .sum (WX u3_0 u3_1 u3_2 false (0 : Int)) (fun y0 =>
 .leaf (.next (y0.2, y0.1))) (fun _ => .fail)) (
 .leaf (.l u3_2))
def Cz : LpM := ⟨(Sq qA) × (Sq qC), (Sq Bool) × Bool, (Sq Bool), Unit, fun p => ⟨[(2, .ptr 0 0), (5, .own 192 0), (6, .bool p.2.2)], [(0, .var [sqA 2 qA.enc p.1.1, sqA 10 qC.enc p.1.2]), (192, rowA 0 1 4 eO p.2.1)], 384⟩, fun f v => KQ f.1 f.2 v.1 v.2, true, (.exit 0), (fun x a => ⟨[(5, .own 192 0)], [(0, blkS x 0), (192, rowA 0 1 4 eO a)], 384⟩), .ret, (fun _ _ => ⟨[], [], 0⟩), c1, c1k⟩
def WW (u3_0 : Sq qA) (u3_1 : Sq qC) (u3_2 : Sq Bool) (u3_3 : Bool) : Option (((Sq Bool)) ⊕ (Unit)) := Cz.val ((u3_0, u3_1), (u3_2, u3_3))
theorem agu (u3_0 : Sq qA) (u3_1 : Sq qC) (u3_2 : Sq Bool) (u3_3 : Bool) : WW u3_0 u3_1 u3_2 u3_3 = fixO (fun v : (Sq Bool) × Bool => KQ u3_0 u3_1 v.1 v.2) (u3_2, u3_3) := Cz.val_eq (fun x => ((sqD qA.dec (cellS x 0 0), sqD qC.dec (cellS x 0 1)), (sqB dO (blkS x 192), pU (aget x.tm 6)))) (fun p => by kernel_rfl) ((u3_0, u3_1), (u3_2, u3_3))
def Zg (m : qI) (seen : Sq Bool) : DT ((Sq Bool)) :=
 .ite (decide (seen.n * 1 ≤ 140737488355328 ∧ seen.n ≤ 1099511627776)) (
 .sum (WW m.Places m.Roads seen true) (fun y1 =>
 .leaf y1) (fun _ => .fail)) (
 .fail)
def CF : FnM := nfM (qI × (Sq Bool)) ((Sq Bool)) (fun p => ([.agg (qI.enc p.1), sqA 1 eO p.2], [])) (fun p => Zg p.1 p.2) (fun _ => .own 0 0) (fun _ r => [rowA 0 1 4 eO r])
def TU : Env := envM [] [(6, [2, 5, 6, 7], [2, 5, 6]), (3, [2, 5, 6], [5])] [(6, CB.c), (3, Cz.c)] [] [(6, [0, 192]), (3, [0, 192])] 0
def Zf : Env := { TU with nt := 49 }
theorem Vl : aQ Zf (qd 6 Tryz.f118) CB.c := CB.tells 576 (fun _ => by kernel_rfl) (fun _ _ _ _ => by kernel_rfl) (fun _ _ _ _ => by kernel_rfl) fun R f v N K => by kernel_rfl
theorem Vk : aQ Zf (qd 3 Tryz.f118) Cz.c := Cz.tells 384 (fun _ => by kernel_rfl) (fun _ _ _ _ => by kernel_rfl) (fun _ _ _ _ => by kernel_rfl) fun R f v N K => by kernel_rfl
theorem Z5 : aI Tryz.prog 118 CF.c := CF.tells Tryz.func118 (show ∀ p, arun TU Tryz.f118 (CF.enc p).1 (CF.enc p).2 = _ from fun p => by kernel_rfl) (qg [qd 3 Tryz.f118, qd 6 Tryz.f118] (by kernel_rfl) ⟨lpT (by kernel_rfl) Vk, ⟨lpT (by kernel_rfl) Vl, trivial⟩⟩) .nil
def acK (m : qI) (seen : Sq Bool) : Option ((Sq Bool)) := CF.val (m, seen)
theorem ah7 (m : qI) (seen : Sq Bool) : acK m seen = (Zg m seen).get := CF.val_eq (fun x => (qI.dec (aggL (gd x.1 0)), sqD dO (gd x.1 1))) (fun p => by kernel_rfl) (m, seen)
def KP (u3_0 : Sq qA) (_u3_1 : Sq qC) (u3_2 : Sq Bool) (u3_3 : Int) : DT (LR ((Sq Bool) × Int) ((Sq Bool)) (Unit)) :=
 .ite (decide (u3_3 < ((u3_0.n : Nat) : Int))) (
 .ite (decide ((0 : Int) ≤ u3_3 ∧ u3_3 < ((u3_0.n : Nat) : Int))) (
 .ite (decide ((0 : Int) ≤ u3_3 ∧ u3_3 < ((u3_2.n : Nat) : Int))) (
 .leaf (.next ((Sq.mk u3_2.n (fun k0 => (cond (Nat.beq k0 (Int.toNat u3_3)) (u3_0.f (Int.toNat u3_3)).Surface (u3_2.f k0)))), (wr (u3_3 + (1 : Int)))))) (
 .fail)) (
 .fail)) (
 .leaf (.l u3_2))
def Cy : LpM := ⟨(Sq qA) × (Sq qC), (Sq Bool) × Int, (Sq Bool), Unit, fun p => ⟨[(1, .ptr 0 0), (3, .own 320 0), (4, .int .i64 p.2.2)], [(0, .var [sqA 2 qA.enc p.1.1, sqA 10 qC.enc p.1.2]), (320, rowA 0 1 4 eO p.2.1)], 512⟩, fun f v => KP f.1 f.2 v.1 v.2, true, (.exit 0), (fun x a => ⟨[(1, .ptr 0 0), (3, .own 320 0)], [(0, blkS x 0), (320, rowA 0 1 4 eO a)], 512⟩), .ret, (fun _ _ => ⟨[], [], 0⟩), c1, c1k⟩
def WT (u3_0 : Sq qA) (u3_1 : Sq qC) (u3_2 : Sq Bool) (u3_3 : Int) : Option (((Sq Bool)) ⊕ (Unit)) := Cy.val ((u3_0, u3_1), (u3_2, u3_3))
theorem agt (u3_0 : Sq qA) (u3_1 : Sq qC) (u3_2 : Sq Bool) (u3_3 : Int) : WT u3_0 u3_1 u3_2 u3_3 = fixO (fun v : (Sq Bool) × Int => KP u3_0 u3_1 v.1 v.2) (u3_2, u3_3) := Cy.val_eq (fun x => ((sqD qA.dec (cellS x 0 0), sqD qC.dec (cellS x 0 1)), (sqB dO (blkS x 320), intA (aget x.tm 4)))) (fun p => by kernel_rfl) ((u3_0, u3_1), (u3_2, u3_3))
def Ze (m : qI) : DT ((Sq Bool)) :=
 .ite (decide ((0 : Int) ≤ ((m.Places.n : Nat) : Int) ∧ ((m.Places.n : Nat) : Int) ≤ ((m.Places.n : Nat) : Int) ∧ ((m.Places.n : Nat) : Int) * ((1 : Nat) : Int) ≤ 140737488355328 ∧ ((m.Places.n : Nat) : Int) ≤ 1099511627776)) (
 .sum (WT m.Places m.Roads (Sq.mk (Int.toNat ((m.Places.n : Nat) : Int)) (fun _ => false)) (0 : Int)) (fun y0 =>
 .bind (acK m y0) fun z0 =>
 .leaf z0) (fun _ => .fail)) (
 .fail)
def zP : FnM := nfM (qI) ((Sq Bool)) (fun p => ([.agg (qI.enc p)], [])) (fun p => Ze p) (fun _ => .own 0 0) (fun _ r => [rowA 0 1 4 eO r])
def TR : Env := envM [(118, CF.c)] [(3, [1, 3, 4], [1, 3])] [(3, Cy.c)] [(6, [.freeze 320])] [(3, [0, 320])] 0
def ad2 : Env := { TR with nt := 28 }
theorem Vj : aQ ad2 (qd 3 Tryz.f81) Cy.c := Cy.tells 512 (fun _ => by kernel_rfl) (fun _ _ _ _ => by kernel_rfl) (fun _ _ _ _ => by kernel_rfl) fun R f v N K => by kernel_rfl
theorem Oz : aI Tryz.prog 81 zP.c := zP.tells Tryz.func81 (show ∀ p, arun TR Tryz.f81 (zP.enc p).1 (zP.enc p).2 = _ from fun p => by kernel_rfl) (qg [qd 3 Tryz.f81] (by kernel_rfl) ⟨lpT (by kernel_rfl) Vj, trivial⟩) (.cons Z5 .nil)
def Yk (m : qI) : Option ((Sq Bool)) := zP.val m
theorem ah6 (m : qI) : Yk m = (Ze m).get := zP.val_eq (fun x => qI.dec (aggL (gd x.1 0))) (fun p => by kernel_rfl) m
def JX (u3_0 : Sq qA) (_u3_1 : Sq qC) (u3_2 : Sq Bool) (u3_3 : Int) : DT (LR ((Sq Bool) × Int) ((Sq Bool)) (Unit)) :=
 .ite (decide (u3_3 < ((u3_2.n : Nat) : Int))) (
 .ite (decide ((0 : Int) ≤ u3_3 ∧ u3_3 < ((u3_2.n : Nat) : Int))) (
 .ite (!(u3_2.f (Int.toNat u3_3))) (
 .ite (decide ((0 : Int) ≤ u3_3 ∧ u3_3 < ((u3_2.n : Nat) : Int))) (
 .leaf (.next ((Sq.mk u3_2.n (fun k0 => (cond (Nat.beq k0 (Int.toNat u3_3)) true (u3_2.f k0)))), (wr (u3_3 + (1 : Int)))))) (
 .fail)) (
 .ite (decide ((0 : Int) ≤ u3_3 ∧ u3_3 < ((u3_0.n : Nat) : Int))) (
 .ite (decide ((0 : Int) ≤ u3_3 ∧ u3_3 < ((u3_2.n : Nat) : Int))) (
 .leaf (.next ((Sq.mk u3_2.n (fun k1 => (cond (Nat.beq k1 (Int.toNat u3_3)) (u3_0.f (Int.toNat u3_3)).Surface (u3_2.f k1)))), (wr (u3_3 + (1 : Int)))))) (
 .fail)) (
 .fail))) (
 .fail)) (
 .leaf (.l u3_2))
def Bw : LpM := ⟨(Sq qA) × (Sq qC), (Sq Bool) × Int, (Sq Bool), Unit, fun p => ⟨[(1, .ptr 0 0), (3, .own 192 0), (4, .int .i64 p.2.2)], [(0, .var [sqA 2 qA.enc p.1.1, sqA 10 qC.enc p.1.2]), (192, rowA 0 1 4 eO p.2.1)], 384⟩, fun f v => JX f.1 f.2 v.1 v.2, true, (.exit 0), (fun x a => ⟨[(3, .own 192 0)], [(0, blkS x 0), (192, rowA 0 1 4 eO a)], 384⟩), .ret, (fun _ _ => ⟨[], [], 0⟩), c1, c1k⟩
def Ur (u3_0 : Sq qA) (u3_1 : Sq qC) (u3_2 : Sq Bool) (u3_3 : Int) : Option (((Sq Bool)) ⊕ (Unit)) := Bw.val ((u3_0, u3_1), (u3_2, u3_3))
theorem afU (u3_0 : Sq qA) (u3_1 : Sq qC) (u3_2 : Sq Bool) (u3_3 : Int) : Ur u3_0 u3_1 u3_2 u3_3 = fixO (fun v : (Sq Bool) × Int => JX u3_0 u3_1 v.1 v.2) (u3_2, u3_3) := Bw.val_eq (fun x => ((sqD qA.dec (cellS x 0 0), sqD qC.dec (cellS x 0 1)), (sqB dO (blkS x 192), intA (aget x.tm 4)))) (fun p => by kernel_rfl) ((u3_0, u3_1), (u3_2, u3_3))
def Xu (m : qI) : DT ((Sq Bool)) :=
 .bind (Yk m) fun z0 =>
 .sum (Ur m.Places m.Roads z0 (0 : Int)) (fun y0 =>
 .leaf y0) (fun _ => .fail)
def wG : FnM := nfM (qI) ((Sq Bool)) (fun p => ([.agg (qI.enc p)], [])) (fun p => Xu p) (fun _ => .own 0 0) (fun _ r => [rowA 0 1 4 eO r])
def Q0 : Env := envM [(81, zP.c)] [(3, [1, 3, 4], [3])] [(3, Bw.c)] [] [(3, [0, 192])] 0
def adl : Env := { Q0 with nt := 30 }
theorem Sz : aQ adl (qd 3 Tryz.f115) Bw.c := Bw.tells 384 (fun _ => by kernel_rfl) (fun _ _ _ _ => by kernel_rfl) (fun _ _ _ _ => by kernel_rfl) fun R f v N K => by kernel_rfl
theorem Gl : aI Tryz.prog 115 wG.c := wG.tells Tryz.func115 (show ∀ p, arun Q0 Tryz.f115 (wG.enc p).1 (wG.enc p).2 = _ from fun p => by kernel_rfl) (qg [qd 3 Tryz.f115] (by kernel_rfl) ⟨lpT (by kernel_rfl) Sz, trivial⟩) (.cons Oz .nil)
def Nz (m : qI) : Option ((Sq Bool)) := wG.val m
theorem ahI (m : qI) : Nz m = (Xu m).get := wG.val_eq (fun x => qI.dec (aggL (gd x.1 0))) (fun p => by kernel_rfl) m
def KJ (pressure : Int) : DT (Bool) :=
 .ite (decide (pressure < (-70368744177664 : Int))) (.leaf true) (.leaf (decide (pressure > (70368744177664 : Int))))
def uK : FnM := flM (Int) (Bool) (fun p => ([.int .i64 p], [])) (fun p => KJ p) (fun r => .bool r) (fun _ => rfl)
def RZ : Env := envM [] [] [] [] [] 0
theorem O8 : aI Tryz.prog 106 uK.c := uK.tells Tryz.func106 (show ∀ p, arun RZ Tryz.f106 (uK.enc p).1 (uK.enc p).2 = _ from fun p => by kernel_rfl) p8 .nil
def Oj (pressure : Int) : Option (Bool) := uK.val pressure
theorem aeG (pressure : Int) : Oj pressure = (KJ pressure).get := uK.val_eq (fun x => intA (gd x.1 0)) (fun p => by kernel_rfl) pressure
def BS (u2_0 : Sq Int) (u2_2 : Int) : DT (LR (Int) (Unit) (Int)) :=
 .ite (decide (u2_2 < ((u2_0.n : Nat) : Int))) (
 .ite (decide ((0 : Int) ≤ u2_2 ∧ u2_2 < ((u2_0.n : Nat) : Int))) (
 .bind (Oj (u2_0.f (Int.toNat u2_2))) fun z0 =>
 .ite z0 (
 .leaf (.r u2_2)) (
 .leaf (.next (wr (u2_2 + (1 : Int)))))) (
 .fail)) (
 .leaf (.l ()))
def tT : LpM := ⟨(Sq Int), Int, Unit, Int, fun p => ⟨[(0, sqA 1 (eI .i64) p.1), (1, .fn 106 []), (7, .int .i64 ((p.1.n : Nat) : Int)), (8, .int .i64 p.2)], [], 256⟩, fun f v => BS f v, false, (.exit 0), (fun _ _ => ⟨[(4, .undef)], [], 256⟩), .ret, (fun _ a => ⟨[(4, .int .i64 a)], [], 256⟩), c1, c1k⟩
def Fw (u2_0 : Sq Int) (u2_2 : Int) : Option ((Unit) ⊕ (Int)) := tT.val (u2_0, u2_2)
theorem abN (u2_0 : Sq Int) (u2_2 : Int) : Fw u2_0 u2_2 = fixO (fun v : Int => BS u2_0 v) u2_2 := tT.val_eq (fun x => (sqD dI (aget x.tm 0), intA (aget x.tm 8))) (fun p => by kernel_rfl) (u2_0, u2_2)
def F3 (s : Sq Int) : DT (Int) :=
 .sum (Fw s (0 : Int)) (fun _ =>
 .leaf (-1 : Int)) (fun y0 => .leaf y0)
def r9 : FnM := flM ((Sq Int)) (Int) (fun p => ([sqA 1 (eI .i64) p, .fn 106 []], [])) (fun p => F3 p) (fun r => .int .i64 r) (fun _ => rfl)
def EM : Env := envM [(106, uK.c)] [(2, [0, 1, 7, 8], [4])] [(2, tT.c)] [] [(2, [])] 0
def Pk : Env := { EM with nt := 19 }
theorem Hz : aQ Pk (qd 2 Tryz.f144) tT.c := tT.tells 256 (fun _ => by kernel_rfl) (fun _ _ _ _ => by kernel_rfl) (fun _ _ _ _ => by kernel_rfl) fun R f v N K => by kernel_rfl
theorem Km : aI Tryz.prog 144 r9.c := r9.tells Tryz.func144 (show ∀ p, arun EM Tryz.f144 (r9.enc p).1 (r9.enc p).2 = _ from fun p => by kernel_rfl) (qg [qd 2 Tryz.f144] (by kernel_rfl) ⟨lpT (by kernel_rfl) Hz, trivial⟩) (.cons O8 .nil)
def IG (s : Sq Int) : Option (Int) := r9.val s
theorem adt (s : Sq Int) : IG s = (F3 s).get := r9.val_eq (fun x => sqD dI (gd x.1 0)) (fun p => by kernel_rfl) s
def Ec (s : Sq Int) : DT (Bool) :=
 .bind (IG s) fun z0 =>
 .leaf (decide (z0 ≥ (0 : Int)))
def ru : FnM := flM ((Sq Int)) (Bool) (fun p => ([sqA 1 (eI .i64) p, .fn 106 []], [])) (fun p => Ec p) (fun r => .bool r) (fun _ => rfl)
def J8 : Env := envM [(144, r9.c)] [] [] [] [] 0
theorem Hw : aI Tryz.prog 105 ru.c := ru.tells Tryz.func105 (show ∀ p, arun J8 Tryz.f105 (ru.enc p).1 (ru.enc p).2 = _ from fun p => by kernel_rfl) p8 (.cons Km .nil)
def AB (s : Sq Int) : Option (Bool) := ru.val s
theorem abL (s : Sq Int) : AB s = (Ec s).get := ru.val_eq (fun x => sqD dI (gd x.1 0)) (fun p => by kernel_rfl) s
def FP (u3_0 : Sq qA) (u3_2 : Sq qC) (u3_3 : Sq SFan) (u3_4 : Sq qD) (u3_5 u3_6 u3_7 u3_8 u3_9 : Sq Int) (u3_10 : Int) : DT (LR (Int) (Unit) (Unit)) :=
 .ite (decide (u3_10 < ((u3_0.n : Nat) : Int))) (
 .ite (decide ((0 : Int) ≤ u3_10 ∧ u3_10 < ((u3_0.n : Nat) : Int))) (
 .ite (u3_0.f (Int.toNat u3_10)).Surface (
 .ite (decide ((0 : Int) ≤ u3_10 ∧ u3_10 < ((u3_7.n : Nat) : Int))) (
 .ite ((u3_7.f (Int.toNat u3_10)) != (0 : Int)) (
 .leaf (.r ())) (
 .ite (decide ((0 : Int) ≤ u3_10 ∧ u3_10 < ((u3_8.n : Nat) : Int))) (
 .ite ((u3_8.f (Int.toNat u3_10)) != (0 : Int)) (
 .leaf (.r ())) (
 .leaf (.next (wr (u3_10 + (1 : Int)))))) (
 .fail))) (
 .fail)) (
 .bind (slices_Contains u3_9 u3_10) fun z0 =>
 .ite z0 (
 .ite (decide ((0 : Int) ≤ u3_10 ∧ u3_10 < ((u3_7.n : Nat) : Int))) (
 .ite ((u3_7.f (Int.toNat u3_10)) != (0 : Int)) (
 .leaf (.r ())) (
 .ite (decide ((0 : Int) ≤ u3_10 ∧ u3_10 < ((u3_8.n : Nat) : Int))) (
 .ite ((u3_8.f (Int.toNat u3_10)) != (0 : Int)) (
 .leaf (.r ())) (
 .leaf (.next (wr (u3_10 + (1 : Int)))))) (
 .fail))) (
 .fail)) (
 .bind (U1 (SAir.mk (qI.mk u3_0 u3_2) u3_3 u3_4) (qz.mk u3_5 u3_6) u3_8 u3_10) fun z1 =>
 .ite (decide (z1.Low < (0 : Int))) (
 .leaf (.r ())) (
 .bind (U1 (SAir.mk (qI.mk u3_0 u3_2) u3_3 u3_4) (qz.mk u3_5 u3_6) u3_7 u3_10) fun z2 =>
 .ite (decide (z2.High > (0 : Int))) (
 .leaf (.r ())) (
 .leaf (.next (wr (u3_10 + (1 : Int))))))))) (
 .fail)) (
 .leaf (.l ()))
def wY : LpM := ⟨(Sq qA) × (Sq qC) × (Sq SFan) × (Sq qD) × (Sq Int) × (Sq Int) × (Sq Int) × (Sq Int) × (Sq Int), Int, Unit, Unit, fun p => ⟨[(3, .ptr 0 0), (4, .ptr 64 0), (5, .ptr 128 0), (7, .own 384 0), (15, sqA 2 qA.enc p.1.1), (16, .int .i64 ((p.1.1.n : Nat) : Int)), (17, .int .i64 p.2)], [(0, .var [sqA 2 qA.enc p.1.1, sqA 10 qC.enc p.1.2.1, sqA 4 SFan.enc p.1.2.2.1, sqA 3 qD.enc p.1.2.2.2.1]), (64, .var [sqA 1 (eI .i64) p.1.2.2.2.2.1, sqA 1 (eI .i64) p.1.2.2.2.2.2.1]), (128, .var [sqA 1 (eI .i64) p.1.2.2.2.2.2.2.1, sqA 1 (eI .i64) p.1.2.2.2.2.2.2.2.1]), (384, rowA 0 1 3 (eI .i64) p.1.2.2.2.2.2.2.2.2)], 832⟩, fun f v => FP f.1 f.2.1 f.2.2.1 f.2.2.2.1 f.2.2.2.2.1 f.2.2.2.2.2.1 f.2.2.2.2.2.2.1 f.2.2.2.2.2.2.2.1 f.2.2.2.2.2.2.2.2 v, false, (.exit 0), (fun x _ => ⟨[(6, .undef)], [(0, blkS x 0), (64, blkS x 64), (128, blkS x 128), (384, blkS x 384)], 832⟩), .ret, (fun x _ => ⟨[(6, .bool false)], [(0, blkS x 0), (64, blkS x 64), (128, blkS x 128), (384, blkS x 384)], 832⟩), c1, c1k⟩
def Mi (u3_0 : Sq qA) (u3_2 : Sq qC) (u3_3 : Sq SFan) (u3_4 : Sq qD) (u3_5 u3_6 u3_7 u3_8 u3_9 : Sq Int) (u3_10 : Int) : Option ((Unit) ⊕ (Unit)) := wY.val ((u3_0, u3_2, u3_3, u3_4, u3_5, u3_6, u3_7, u3_8, u3_9), u3_10)
theorem aem (u3_0 : Sq qA) (u3_2 : Sq qC) (u3_3 : Sq SFan) (u3_4 : Sq qD) (u3_5 u3_6 u3_7 u3_8 u3_9 : Sq Int) (u3_10 : Int) : Mi u3_0 u3_2 u3_3 u3_4 u3_5 u3_6 u3_7 u3_8 u3_9 u3_10 = fixO (fun v : Int => FP u3_0 u3_2 u3_3 u3_4 u3_5 u3_6 u3_7 u3_8 u3_9 v) u3_10 := wY.val_eq (fun x => ((sqD qA.dec (aget x.tm 15), sqD qC.dec (cellS x 0 1), sqD SFan.dec (cellS x 0 2), sqD qD.dec (cellS x 0 3), sqD dI (cellS x 64 0), sqD dI (cellS x 64 1), sqD dI (cellS x 128 0), sqD dI (cellS x 128 1), sqB dI (blkS x 384)), intA (aget x.tm 17))) (fun p => by kernel_rfl) ((u3_0, u3_2, u3_3, u3_4, u3_5, u3_6, u3_7, u3_8, u3_9), u3_10)
def Oi (a : SAir) (s : qz) (b : qL) : DT (Bool) :=
 .bind (Nu a.Mine) fun z3 =>
 .sum (Mi a.Mine.Places a.Mine.Roads a.Fans a.Doors s.Fans s.Doors b.Low b.High z3 (0 : Int)) (fun _ =>
 .leaf true) (fun _ => .leaf false)
def vS : FnM := flM (SAir × qz × qL) (Bool) (fun p => ([.agg (SAir.enc p.1), .agg (qz.enc p.2.1), .agg (qL.enc p.2.2)], [])) (fun p => Oi p.1 p.2.1 p.2.2) (fun r => .bool r) (fun _ => rfl)
def KI : Env := envM [(72, wD.c), (73, rT.c), (145, zZ.c)] [(3, [3, 4, 5, 7, 15, 16, 17], [6])] [(3, wY.c)] [] [(3, [0, 64, 128, 384])] 0
def ZR : Env := { KI with nt := 62 }
theorem Nl : aQ ZR (qd 3 Tryz.f107) wY.c := wY.tells 832 (fun _ => by kernel_rfl) (fun _ _ _ _ => by kernel_rfl) (fun _ _ _ _ => by kernel_rfl) fun R f v N K => by kernel_rfl
theorem RY : aI Tryz.prog 107 vS.c := vS.tells Tryz.func107 (show ∀ p, arun KI Tryz.f107 (vS.enc p).1 (vS.enc p).2 = _ from fun p => by kernel_rfl) (qg [qd 3 Tryz.f107] (by kernel_rfl) ⟨lpT (by kernel_rfl) Nl, trivial⟩) (.cons Ga (.cons yJ (.cons X0 .nil)))
def Tv (a : SAir) (s : qz) (b : qL) : Option (Bool) := vS.val (a, s, b)
theorem afz (a : SAir) (s : qz) (b : qL) : Tv a s b = (Oi a s b).get := vS.val_eq (fun x => (SAir.dec (aggL (gd x.1 0)), qz.dec (aggL (gd x.1 1)), qL.dec (aggL (gd x.1 2)))) (fun p => by kernel_rfl) (a, s, b)
def Qb (a : SAir) (s : qz) (b : qL) : DT (Int) :=
 .bind (KC a) fun z0 =>
 .ite (z0 != (0 : Int)) (
 .leaf z0) (
 .bind (GA a s) fun z1 =>
 .ite (!z1) (
 .leaf (21 : Int)) (
 .ite (((b.Low.n : Nat) : Int) != ((a.Mine.Places.n : Nat) : Int)) (
 .leaf (11 : Int)) (
 .ite (((b.High.n : Nat) : Int) != ((a.Mine.Places.n : Nat) : Int)) (
 .leaf (11 : Int)) (
 .bind (AB b.Low) fun z2 =>
 .ite z2 (
 .leaf (1 : Int)) (
 .bind (AB b.High) fun z3 =>
 .ite z3 (
 .leaf (1 : Int)) (
 .bind (Tv a s b) fun z4 =>
 .ite (!z4) (.leaf (12 : Int)) (.leaf (0 : Int))))))))
def vJ : FnM := flM (SAir × qz × qL) (Int) (fun p => ([.agg (SAir.enc p.1), .agg (qz.enc p.2.1), .agg (qL.enc p.2.2)], [])) (fun p => Qb p.1 p.2.1 p.2.2) (fun r => .int .i64 r) (fun _ => rfl)
def X9 : Env := envM [(37, vw.c), (38, uD.c), (105, ru.c), (107, vS.c)] [] [] [] [] 0
theorem Jr : aI Tryz.prog 71 vJ.c := vJ.tells Tryz.func71 (show ∀ p, arun X9 Tryz.f71 (vJ.enc p).1 (vJ.enc p).2 = _ from fun p => by kernel_rfl) p8 (.cons ET (.cons BN (.cons Hw (.cons RY .nil))))
def Nk (a : SAir) (s : qz) (b : qL) : Option (Int) := vJ.val (a, s, b)
theorem agi (a : SAir) (s : qz) (b : qL) : Nk a s b = (Qb a s b).get := vJ.val_eq (fun x => (SAir.dec (aggL (gd x.1 0)), qz.dec (aggL (gd x.1 1)), qL.dec (aggL (gd x.1 2)))) (fun p => by kernel_rfl) (a, s, b)
end
end Go.Proofs.YtimkpfnbkclclaaGreat.Ab
