/- Mirrors of code, stage 12. -/
import Derived.Test.YtmfiagdelnddkaaGreatXd
import Derived.Test.YtmfiagdelnddkaaGreatXkr
namespace Go.Proofs.YtmfiagdelnddkaaGreat.Ab
noncomputable section
open Go
attribute [local irreducible] arun
def lU (u12_0 : Sq Int) (u12_1 : Sq Bool) (u12_2 : Int) : DT (LR (Int) (Unit) (Unit)) :=
 .ite (decide (u12_2 < ((u12_0.n : Nat) : Int))) (
 .ite (decide ((0 : Int) ≤ u12_2 ∧ u12_2 < ((u12_1.n : Nat) : Int))) (
 .ite (u12_1.f (Int.toNat u12_2)) (
 .ite (decide ((0 : Int) ≤ u12_2 ∧ u12_2 < ((u12_0.n : Nat) : Int))) (
 .ite ((u12_0.f (Int.toNat u12_2)) != (0 : Int)) (
 .leaf (.r ())) (
 .leaf (.next (wr (u12_2 + (1 : Int)))))) (
 .fail)) (
 .leaf (.next (wr (u12_2 + (1 : Int)))))) (
 .fail)) (
 .leaf (.l ()))
def qP : LpM := ⟨(Sq Int) × (Sq Bool), Int, Unit, Unit, fun p => ⟨[(2, sqA 1 (eI .i64) p.1.1), (8, .own 1856 0), (9, .int .i64 p.2)], [(1856, rowA 0 1 4 eO p.1.2)], 2048⟩, fun f v => lU f.1 f.2 v, false, (.exit 0), (fun x _ => ⟨[(6, .undef)], [(1856, blkS x 1856)], 2048⟩), .ret, (fun x _ => ⟨[(6, .int .i64 (12 : Int))], [(1856, blkS x 1856)], 2048⟩), c1, c1k⟩
def Ei (u12_0 : Sq Int) (u12_1 : Sq Bool) (u12_2 : Int) : Option ((Unit) ⊕ (Unit)) := qP.val ((u12_0, u12_1), u12_2)
theorem TH (u12_0 : Sq Int) (u12_1 : Sq Bool) (u12_2 : Int) : Ei u12_0 u12_1 u12_2 = fixO (fun v : Int => lU u12_0 u12_1 v) u12_2 := qP.val_eq (fun x => ((sqD dI (aget x.tm 2), sqB dO (blkS x 1856)), intA (aget x.tm 9))) (fun p => by kernel_rfl) ((u12_0, u12_1), u12_2)
def JV (a : SAir) (s : au) (start : Sq Int) : DT (Int) :=
 .bind (JJ a) fun z0 =>
 .ite (z0 != (0 : Int)) (
 .leaf z0) (
 .bind (Rj a s) fun z1 =>
 .ite (!z1) (
 .leaf (21 : Int)) (
 .ite (((start.n : Nat) : Int) != ((a.Mine.Places.n : Nat) : Int)) (
 .leaf (11 : Int)) (
 .bind (Ni start) fun z2 =>
 .ite (!z2) (
 .leaf (1 : Int)) (
 .bind (Ea a.Mine) fun z3 =>
 .sum (Ei start z3 (0 : Int)) (fun _ =>
 .leaf (0 : Int)) (fun _ => .leaf (12 : Int))))))
def pE : FnM := flM (SAir × au × (Sq Int)) (Int) (fun p => ([.agg (SAir.enc p.1), .agg (au.enc p.2.1), sqA 1 (eI .i64) p.2.2], [])) (fun p => JV p.1 p.2.1 p.2.2) (fun r => .int .i64 r) (fun _ => rfl)
def Nq : Env := envM [(75, oZ.c), (76, sW.c), (77, qj.c), (57, l8.c)] [(12, [2, 8, 9], [6])] [(12, qP.c)] [] [(12, [1856])] 0
def acg : Env := { Nq with nt := 49 }
theorem Nr : aG acg (aH 12 Tryz.f56) qP.c := qP.tells 2048 (fun _ => by kernel_rfl) (fun _ _ _ _ => by kernel_rfl) (fun _ _ _ _ => by kernel_rfl) fun R f v N K => by kernel_rfl
theorem H6 : aN Tryz.prog 56 pE.c := pE.tells Tryz.func56 (show ∀ p, arun Nq Tryz.f56 (pE.enc p).1 (pE.enc p).2 = _ from fun p => by kernel_rfl) (bf [aH 12 Tryz.f56] (by kernel_rfl) ⟨lpT (by kernel_rfl) Nr, trivial⟩) (.cons Hz (.cons Vm (.cons TG (.cons Ba .nil))))
def JU (a : SAir) (s : au) (start : Sq Int) : Option (Int) := pE.val (a, s, start)
theorem aav (a : SAir) (s : au) (start : Sq Int) : JU a s start = (JV a s start).get := pE.val_eq (fun x => (SAir.dec (aggL (gd x.1 0)), au.dec (aggL (gd x.1 1)), sqD dI (gd x.1 2))) (fun p => by kernel_rfl) (a, s, start)
def fU (u11_0 : Bool) (_u11_1 : Sq Int) (u11_2 : Sq ay) (u11_3 : Sq aB) (u11_4 : Sq SFan) (u11_5 : Sq aC) (u11_6 u11_7 : Sq Int) (u11_8 : Sq Bool) (_u11_12 u11_9 : Int) (u11_10 : Bool) (u11_11 : Sq Int) : DT (LR (Int × Bool × (Sq Int)) (Bool × (Sq Int)) (Bool × (Sq Int))) :=
 .ite (decide (u11_9 < ((u11_11.n : Nat) : Int))) (
 .ite (decide ((0 : Int) ≤ u11_9 ∧ u11_9 < ((u11_8.n : Nat) : Int))) (
 .ite (u11_8.f (Int.toNat u11_9)) (
 .leaf (.next ((wr (u11_9 + (1 : Int))), u11_10, u11_11))) (
 .ite u11_0 (
 .bind (Og (SAir.mk (aL.mk u11_2 u11_3) u11_4 u11_5) (au.mk u11_6 u11_7) u11_11 u11_9) fun z0 =>
 .ite (!z0.2) (
 .leaf (.r (u11_10, u11_11))) (
 .ite u11_10 (
 .ite (decide ((0 : Int) ≤ u11_9 ∧ u11_9 < ((u11_11.n : Nat) : Int))) (
 .leaf (.next ((wr (u11_9 + (1 : Int))), true, (Sq.mk u11_11.n (fun k0 => (cond (Nat.beq k0 (Int.toNat u11_9)) z0.1 (u11_11.f k0))))))) (
 .fail)) (
 .ite (decide ((0 : Int) ≤ u11_9 ∧ u11_9 < ((u11_11.n : Nat) : Int))) (
 .ite (decide ((0 : Int) ≤ u11_9 ∧ u11_9 < ((u11_11.n : Nat) : Int))) (
 .leaf (.next ((wr (u11_9 + (1 : Int))), (z0.1 != (u11_11.f (Int.toNat u11_9))), (Sq.mk u11_11.n (fun k1 => (cond (Nat.beq k1 (Int.toNat u11_9)) z0.1 (u11_11.f k1))))))) (
 .fail)) (
 .fail)))) (
 .bind (C9 (SAir.mk (aL.mk u11_2 u11_3) u11_4 u11_5) (au.mk u11_6 u11_7) u11_11 u11_9) fun z1 =>
 .ite (!z1.2) (
 .leaf (.r (u11_10, u11_11))) (
 .ite u11_10 (
 .ite (decide ((0 : Int) ≤ u11_9 ∧ u11_9 < ((u11_11.n : Nat) : Int))) (
 .leaf (.next ((wr (u11_9 + (1 : Int))), true, (Sq.mk u11_11.n (fun k2 => (cond (Nat.beq k2 (Int.toNat u11_9)) z1.1 (u11_11.f k2))))))) (
 .fail)) (
 .ite (decide ((0 : Int) ≤ u11_9 ∧ u11_9 < ((u11_11.n : Nat) : Int))) (
 .ite (decide ((0 : Int) ≤ u11_9 ∧ u11_9 < ((u11_11.n : Nat) : Int))) (
 .leaf (.next ((wr (u11_9 + (1 : Int))), (z1.1 != (u11_11.f (Int.toNat u11_9))), (Sq.mk u11_11.n (fun k3 => (cond (Nat.beq k3 (Int.toNat u11_9)) z1.1 (u11_11.f k3))))))) (
 .fail)) (
 .fail)))))) (
 .fail)) (
 .leaf (.l (u11_10, u11_11)))
def qQ : LpM := ⟨Bool × (Sq Int) × (Sq ay) × (Sq aB) × (Sq SFan) × (Sq aC) × (Sq Int) × (Sq Int) × (Sq Bool) × Int, Int × Bool × (Sq Int), Bool × (Sq Int), Bool × (Sq Int), fun p => ⟨[(3, .bool p.1.1), (4, .ptr 1 0), (5, .ptr 65 0), (11, .own 961 0), (12, .own 1217 0), (13, .int .i64 p.1.2.2.2.2.2.2.2.2.2), (14, .bool p.2.2.1), (15, .int .i64 p.2.1)], [(0, rowA 0 1 3 (eI .i64) p.1.2.1), (1, .var [sqA 2 ay.enc p.1.2.2.1, sqA 10 aB.enc p.1.2.2.2.1, sqA 4 SFan.enc p.1.2.2.2.2.1, sqA 3 aC.enc p.1.2.2.2.2.2.1]), (65, .var [sqA 1 (eI .i64) p.1.2.2.2.2.2.2.1, sqA 1 (eI .i64) p.1.2.2.2.2.2.2.2.1]), (129, .nilrow 0), (961, rowA 0 1 3 (eI .i64) p.2.2.2), (1217, rowA 0 1 4 eO p.1.2.2.2.2.2.2.2.2.1)], 1665⟩, fun f v => fU f.1 f.2.1 f.2.2.1 f.2.2.2.1 f.2.2.2.2.1 f.2.2.2.2.2.1 f.2.2.2.2.2.2.1 f.2.2.2.2.2.2.2.1 f.2.2.2.2.2.2.2.2.1 f.2.2.2.2.2.2.2.2.2 v.1 v.2.1 v.2.2, false, (.exit 2), (fun x a => ⟨[(3, aget x.tm 3), (4, .ptr 1 0), (5, .ptr 65 0), (8, .undef), (9, .undef), (11, .own 961 0), (12, .own 1217 0), (13, aget x.tm 13), (14, .bool a.1)], [(0, blkS x 0), (1, blkS x 1), (65, blkS x 65), (129, .nilrow 0), (961, rowA 0 1 3 (eI .i64) a.2), (1217, blkS x 1217)], 1665⟩), .ret, (fun x a => ⟨[(3, aget x.tm 3), (4, .ptr 1 0), (5, .ptr 65 0), (8, .own 129 0), (9, .int .i64 (2 : Int)), (11, .own 961 0), (12, .own 1217 0), (13, aget x.tm 13), (14, .bool a.1)], [(0, blkS x 0), (1, blkS x 1), (65, blkS x 65), (129, .nilrow 0), (961, rowA 0 1 3 (eI .i64) a.2), (1217, blkS x 1217)], 1665⟩), c1, c1k⟩
def nJ (u11_0 : Bool) (u11_1 : Sq Int) (u11_2 : Sq ay) (u11_3 : Sq aB) (u11_4 : Sq SFan) (u11_5 : Sq aC) (u11_6 u11_7 : Sq Int) (u11_8 : Sq Bool) (u11_12 u11_9 : Int) (u11_10 : Bool) (u11_11 : Sq Int) : Option ((Bool × (Sq Int)) ⊕ (Bool × (Sq Int))) := qQ.val ((u11_0, u11_1, u11_2, u11_3, u11_4, u11_5, u11_6, u11_7, u11_8, u11_12), (u11_9, u11_10, u11_11))
theorem vE (u11_0 : Bool) (u11_1 : Sq Int) (u11_2 : Sq ay) (u11_3 : Sq aB) (u11_4 : Sq SFan) (u11_5 : Sq aC) (u11_6 u11_7 : Sq Int) (u11_8 : Sq Bool) (u11_12 u11_9 : Int) (u11_10 : Bool) (u11_11 : Sq Int) : nJ u11_0 u11_1 u11_2 u11_3 u11_4 u11_5 u11_6 u11_7 u11_8 u11_12 u11_9 u11_10 u11_11 = fixO (fun v : Int × Bool × (Sq Int) => fU u11_0 u11_1 u11_2 u11_3 u11_4 u11_5 u11_6 u11_7 u11_8 u11_12 v.1 v.2.1 v.2.2) (u11_9, u11_10, u11_11) := qQ.val_eq (fun x => ((iR (aget x.tm 3), sqB dI (blkS x 0), sqD ay.dec (cellS x 1 0), sqD aB.dec (cellS x 1 1), sqD SFan.dec (cellS x 1 2), sqD aC.dec (cellS x 1 3), sqD dI (cellS x 65 0), sqD dI (cellS x 65 1), sqB dO (blkS x 1217), intA (aget x.tm 13)), (intA (aget x.tm 15), iR (aget x.tm 14), sqB dI (blkS x 961)))) (fun p => by kernel_rfl) ((u11_0, u11_1, u11_2, u11_3, u11_4, u11_5, u11_6, u11_7, u11_8, u11_12), (u11_9, u11_10, u11_11))
def iD (u7_0 : Bool) (u7_1 : Sq Int) (u7_2 : Sq ay) (u7_3 : Sq aB) (u7_4 : Sq SFan) (u7_5 : Sq aC) (u7_6 u7_7 : Sq Int) (u7_8 : Sq Bool) (u7_9 : Int) (u7_10 : Sq Int) : DT (LR (Int × (Sq Int)) ((Sq Int)) (((Sq Int)) ⊕ ((Sq Int)))) :=
 .ite (decide (u7_9 < (200 : Int))) (
 .sum (nJ u7_0 u7_1 u7_2 u7_3 u7_4 u7_5 u7_6 u7_7 u7_8 u7_9 (0 : Int) false u7_10) (fun y0 =>
 .ite (!y0.1) (
 .leaf (.r (Sum.inl (y0.2)))) (
 .leaf (.next ((wr (u7_9 + (1 : Int))), y0.2)))) (fun y1 => .leaf (.r (Sum.inr (y1.2))))) (
 .leaf (.l u7_10))
def uF : LpM := ⟨Bool × (Sq Int) × (Sq ay) × (Sq aB) × (Sq SFan) × (Sq aC) × (Sq Int) × (Sq Int) × (Sq Bool), Int × (Sq Int), (Sq Int), ((Sq Int)) ⊕ ((Sq Int)), fun p => ⟨[(3, .bool p.1.1), (4, .ptr 1 0), (5, .ptr 65 0), (11, .own 961 0), (12, .own 1217 0), (13, .int .i64 p.2.1)], [(0, rowA 0 1 3 (eI .i64) p.1.2.1), (1, .var [sqA 2 ay.enc p.1.2.2.1, sqA 10 aB.enc p.1.2.2.2.1, sqA 4 SFan.enc p.1.2.2.2.2.1, sqA 3 aC.enc p.1.2.2.2.2.2.1]), (65, .var [sqA 1 (eI .i64) p.1.2.2.2.2.2.2.1, sqA 1 (eI .i64) p.1.2.2.2.2.2.2.2.1]), (129, .nilrow 0), (961, rowA 0 1 3 (eI .i64) p.2.2), (1217, rowA 0 1 4 eO p.1.2.2.2.2.2.2.2.2)], 1409⟩, fun f v => iD f.1 f.2.1 f.2.2.1 f.2.2.2.1 f.2.2.2.2.1 f.2.2.2.2.2.1 f.2.2.2.2.2.2.1 f.2.2.2.2.2.2.2.1 f.2.2.2.2.2.2.2.2 v.1 v.2, false, (.exit 0), (fun x a => ⟨[(8, .undef), (9, .undef)], [(0, blkS x 0), (1, blkS x 1), (65, blkS x 65), (129, .nilrow 0), (961, rowA 0 1 3 (eI .i64) a), (1217, blkS x 1217)], 1409⟩), .ret, (fun x y => match y with | .inl a => ⟨[(8, .own 961 0), (9, .int .i64 (0 : Int))], [(0, blkS x 0), (1, blkS x 1), (65, blkS x 65), (129, .nilrow 0), (961, rowA 0 1 3 (eI .i64) a), (1217, blkS x 1217)], 1409⟩ | .inr a => ⟨[(8, .own 129 0), (9, .int .i64 (2 : Int))], [(0, blkS x 0), (1, blkS x 1), (65, blkS x 65), (129, .nilrow 0), (961, rowA 0 1 3 (eI .i64) a), (1217, blkS x 1217)], 1409⟩), c2, c2k⟩
def qm (u7_0 : Bool) (u7_1 : Sq Int) (u7_2 : Sq ay) (u7_3 : Sq aB) (u7_4 : Sq SFan) (u7_5 : Sq aC) (u7_6 u7_7 : Sq Int) (u7_8 : Sq Bool) (u7_9 : Int) (u7_10 : Sq Int) : Option (((Sq Int)) ⊕ (((Sq Int)) ⊕ ((Sq Int)))) := uF.val ((u7_0, u7_1, u7_2, u7_3, u7_4, u7_5, u7_6, u7_7, u7_8), (u7_9, u7_10))
theorem Bb (u7_0 : Bool) (u7_1 : Sq Int) (u7_2 : Sq ay) (u7_3 : Sq aB) (u7_4 : Sq SFan) (u7_5 : Sq aC) (u7_6 u7_7 : Sq Int) (u7_8 : Sq Bool) (u7_9 : Int) (u7_10 : Sq Int) : qm u7_0 u7_1 u7_2 u7_3 u7_4 u7_5 u7_6 u7_7 u7_8 u7_9 u7_10 = fixO (fun v : Int × (Sq Int) => iD u7_0 u7_1 u7_2 u7_3 u7_4 u7_5 u7_6 u7_7 u7_8 v.1 v.2) (u7_9, u7_10) := uF.val_eq (fun x => ((iR (aget x.tm 3), sqB dI (blkS x 0), sqD ay.dec (cellS x 1 0), sqD aB.dec (cellS x 1 1), sqD SFan.dec (cellS x 1 2), sqD aC.dec (cellS x 1 3), sqD dI (cellS x 65 0), sqD dI (cellS x 65 1), sqB dO (blkS x 1217)), (intA (aget x.tm 13), sqB dI (blkS x 961)))) (fun p => by kernel_rfl) ((u7_0, u7_1, u7_2, u7_3, u7_4, u7_5, u7_6, u7_7, u7_8), (u7_9, u7_10))
def JX (a : SAir) (s : au) (start : Sq Int) (up : Bool) : DT ((Sq Int) × Int) :=
 .bind (JU a s start) fun z2 =>
 .ite (z2 != (0 : Int)) (
 .leaf ((Sq.mk 0 (fun _ => (0 : Int))), z2)) (
 .ite (decide (start.n * 8 ≤ 140737488355328 ∧ start.n ≤ 1099511627776)) (
 .bind (Ea a.Mine) fun z3 =>
 .sum (qm up start a.Mine.Places a.Mine.Roads a.Fans a.Doors s.Fans s.Doors z3 (0 : Int) start) (fun _ =>
 .leaf ((Sq.mk 0 (fun _ => (0 : Int))), (2 : Int))) (fun y2 => .sum (some y2) (fun y3 =>
 .leaf (y3, (0 : Int))) (fun _ => .leaf ((Sq.mk 0 (fun _ => (0 : Int))), (2 : Int))))) (
 .fail))
def pG : FnM := nfM (SAir × au × (Sq Int) × Bool) ((Sq Int) × Int) (fun p => ([.agg (SAir.enc p.1), .agg (au.enc p.2.1), .own 0 0, .bool p.2.2.2], [rowA 0 1 3 (eI .i64) p.2.2.1])) (fun p => JX p.1 p.2.1 p.2.2.1 p.2.2.2) (fun r => .tup [.own 1 0, .int .i64 r.2]) (fun ins r => [dB ins 0, rowA 0 1 3 (eI .i64) r.1])
def Ns : Env := envM [(56, pE.c), (57, l8.c), (58, zq.c), (59, rG.c)] [(11, [3, 4, 5, 11, 12, 13, 14, 15], [3, 4, 5, 8, 9, 11, 12, 13, 14]), (7, [3, 4, 5, 11, 12, 13], [8, 9])] [(11, qQ.c), (7, uF.c)] [(2000000, [.asrow 129 3 1 (fun _ => (eI .i64) (0 : Int))])] [(11, [0, 1, 65, 129, 961, 1217]), (7, [0, 1, 65, 129, 961, 1217]), (6000008, [129])] 1
def TM : Env := { Ns with nt := 79 }
theorem Nt : aG TM (aH 11 Tryz.f36) qQ.c := qQ.tells 1665 (fun _ => by kernel_rfl) (fun _ _ _ _ => by kernel_rfl) (fun _ _ _ _ => by kernel_rfl) fun R f v N K => by kernel_rfl
theorem O7 : aG TM (aH 7 Tryz.f36) uF.c := uF.tells 1409 (fun _ => by kernel_rfl) (fun _ _ _ _ => by kernel_rfl) (fun _ _ _ _ => by kernel_rfl) fun R f v N K => by kernel_rfl
theorem H7 : aN Tryz.prog 36 pG.c := pG.tells Tryz.func36 (show ∀ p, arun Ns Tryz.f36 (pG.enc p).1 (pG.enc p).2 = _ from fun p => by kernel_rfl) (bf [aH 7 Tryz.f36, aH 11 Tryz.f36] (by kernel_rfl) ⟨lpT (by kernel_rfl) O7, ⟨lpT (by kernel_rfl) Nt, trivial⟩⟩) (.cons H6 (.cons Ba (.cons P5 (.cons KJ .nil))))
def JW (a : SAir) (s : au) (start : Sq Int) (up : Bool) : Option ((Sq Int) × Int) := pG.val (a, s, start, up)
theorem aaw (a : SAir) (s : au) (start : Sq Int) (up : Bool) : JW a s start up = (JX a s start up).get := pG.val_eq (fun x => (SAir.dec (aggL (gd x.1 0)), au.dec (aggL (gd x.1 1)), sqB dI (dB x.2 0), iR (gd x.1 3))) (fun p => by kernel_rfl) (a, s, start, up)
def Nk (a : SAir) (s : au) (start : Sq Int) : DT ((Sq Int) × Int) :=
 .bind (JW a s start false) fun z0 =>
 .leaf (z0.1, z0.2)
def wG : FnM := nfM (SAir × au × (Sq Int)) ((Sq Int) × Int) (fun p => ([.agg (SAir.enc p.1), .agg (au.enc p.2.1), .own 0 0], [rowA 0 1 3 (eI .i64) p.2.2])) (fun p => Nk p.1 p.2.1 p.2.2) (fun r => .tup [.own 1 0, .int .i64 r.2]) (fun ins r => [dB ins 0, rowA 0 1 3 (eI .i64) r.1])
def aas : Env := envM [(36, pG.c)] [(2000036, [], [])] [] [] [] 1
theorem Xw : aN Tryz.prog 16 wG.c := wG.tells Tryz.func16 (show ∀ p, arun aas Tryz.f16 (wG.enc p).1 (wG.enc p).2 = _ from fun p => by kernel_rfl) aP (.cons H7 .nil)
def Oh (a : SAir) (s : au) (start : Sq Int) : Option ((Sq Int) × Int) := wG.val (a, s, start)
theorem acd (a : SAir) (s : au) (start : Sq Int) : Oh a s start = (Nk a s start).get := wG.val_eq (fun x => (SAir.dec (aggL (gd x.1 0)), au.dec (aggL (gd x.1 1)), sqB dI (dB x.2 0))) (fun p => by kernel_rfl) (a, s, start)
def Nl (a : SAir) (s : au) (start : Sq Int) : DT ((Sq Int) × Int) :=
 .bind (JW a s start true) fun z0 =>
 .leaf (z0.1, z0.2)
def wH : FnM := nfM (SAir × au × (Sq Int)) ((Sq Int) × Int) (fun p => ([.agg (SAir.enc p.1), .agg (au.enc p.2.1), .own 0 0], [rowA 0 1 3 (eI .i64) p.2.2])) (fun p => Nl p.1 p.2.1 p.2.2) (fun r => .tup [.own 1 0, .int .i64 r.2]) (fun ins r => [dB ins 0, rowA 0 1 3 (eI .i64) r.1])
def aat : Env := envM [(36, pG.c)] [(2000036, [], [])] [] [] [] 1
theorem Xy : aN Tryz.prog 14 wH.c := wH.tells Tryz.func14 (show ∀ p, arun aat Tryz.f14 (wH.enc p).1 (wH.enc p).2 = _ from fun p => by kernel_rfl) aP (.cons H7 .nil)
def Vs (a : SAir) (s : au) (start : Sq Int) : Option ((Sq Int) × Int) := wH.val (a, s, start)
theorem ace (a : SAir) (s : au) (start : Sq Int) : Vs a s start = (Nl a s start).get := wH.val_eq (fun x => (SAir.dec (aggL (gd x.1 0)), au.dec (aggL (gd x.1 1)), sqB dI (dB x.2 0))) (fun p => by kernel_rfl) (a, s, start)
def JR (a : SAir) (s : au) : DT (bM × Int) :=
 .ite (decide ((0 : Int) ≤ ((a.Mine.Places.n : Nat) : Int) ∧ ((a.Mine.Places.n : Nat) : Int) ≤ ((a.Mine.Places.n : Nat) : Int) ∧ ((a.Mine.Places.n : Nat) : Int) * ((8 : Nat) : Int) ≤ 140737488355328 ∧ ((a.Mine.Places.n : Nat) : Int) ≤ 1099511627776)) (
 .bind (Oh a s (Sq.mk (Int.toNat ((a.Mine.Places.n : Nat) : Int)) (fun _ => (0 : Int)))) fun z0 =>
 .ite (z0.2 != (0 : Int)) (
 .leaf ((bM.mk (Sq.mk 0 (fun _ => (0 : Int))) (Sq.mk 0 (fun _ => (0 : Int)))), z0.2)) (
 .bind (Vs a s z0.1) fun z1 =>
 .ite (z1.2 != (0 : Int)) (
 .leaf ((bM.mk (Sq.mk 0 (fun _ => (0 : Int))) (Sq.mk 0 (fun _ => (0 : Int)))), z1.2)) (
 .bind (Oh a s z1.1) fun z2 =>
 .ite (z2.2 != (0 : Int)) (.leaf ((bM.mk (Sq.mk 0 (fun _ => (0 : Int))) (Sq.mk 0 (fun _ => (0 : Int)))), z2.2)) (.leaf ((bM.mk z2.1 z1.1), (0 : Int)))))) (
 .fail)
def tu : FnM := nfM (SAir × au) (bM × Int) (fun p => ([.agg (SAir.enc p.1), .agg (au.enc p.2)], [])) (fun p => JR p.1 p.2) (fun r => .tup [.agg [.own 0 0, .own 1 0], .int .i64 r.2]) (fun _ r => [rowA 0 1 3 (eI .i64) r.1.Low, rowA 0 1 3 (eI .i64) r.1.High])
def Za : Env := envM [(16, wG.c), (14, wH.c)] [(2000016, [], []), (2000014, [], [])] [] [(2000000, [.asrow 1216 3 1 (fun _ => (eI .i64) (0 : Int)), .asrow 2176 3 1 (fun _ => (eI .i64) (0 : Int)), .asrow 3136 3 1 (fun _ => (eI .i64) (0 : Int)), .asrow 1217 3 1 (fun _ => (eI .i64) (0 : Int)), .asrow 2177 3 1 (fun _ => (eI .i64) (0 : Int)), .asrow 3137 3 1 (fun _ => (eI .i64) (0 : Int))])] [] 0
theorem Vu : aN Tryz.prog 21 tu.c := tu.tells Tryz.func21 (show ∀ p, arun Za Tryz.f21 (tu.enc p).1 (tu.enc p).2 = _ from fun p => by kernel_rfl) aP (.cons Xw (.cons Xy .nil))
def Ro (a : SAir) (s : au) : Option (bM × Int) := tu.val (a, s)
theorem aau (a : SAir) (s : au) : Ro a s = (JR a s).get := tu.val_eq (fun x => (SAir.dec (aggL (gd x.1 0)), au.dec (aggL (gd x.1 1)))) (fun p => by kernel_rfl) (a, s)
def dG (u11_0 : Bool) (u11_1 : Sq ay) (u11_2 : Sq aB) (u11_3 : Sq SFan) (u11_4 : Sq aC) (u11_5 u11_6 : Sq Int) (u11_8 : Sq Bool) (_u11_11 : Int) (u11_7 : Sq Int) (u11_9 : Int) (u11_10 : Bool) : DT (LR ((Sq Int) × Int × Bool) (Bool × (Sq Int)) (Bool × (Sq Int))) :=
 .ite (decide (u11_9 < ((u11_7.n : Nat) : Int))) (
 .ite (decide ((0 : Int) ≤ u11_9 ∧ u11_9 < ((u11_8.n : Nat) : Int))) (
 .ite (u11_8.f (Int.toNat u11_9)) (
 .leaf (.next (u11_7, (wr (u11_9 + (1 : Int))), u11_10))) (
 .ite u11_0 (
 .bind (Og (SAir.mk (aL.mk u11_1 u11_2) u11_3 u11_4) (au.mk u11_5 u11_6) u11_7 u11_9) fun z0 =>
 .ite (!z0.2) (
 .leaf (.r (u11_10, u11_7))) (
 .ite u11_10 (
 .ite (decide ((0 : Int) ≤ u11_9 ∧ u11_9 < ((u11_7.n : Nat) : Int))) (
 .leaf (.next ((Sq.mk u11_7.n (fun k0 => (cond (Nat.beq k0 (Int.toNat u11_9)) z0.1 (u11_7.f k0)))), (wr (u11_9 + (1 : Int))), true))) (
 .fail)) (
 .ite (decide ((0 : Int) ≤ u11_9 ∧ u11_9 < ((u11_7.n : Nat) : Int))) (
 .ite (decide ((0 : Int) ≤ u11_9 ∧ u11_9 < ((u11_7.n : Nat) : Int))) (
 .leaf (.next ((Sq.mk u11_7.n (fun k1 => (cond (Nat.beq k1 (Int.toNat u11_9)) z0.1 (u11_7.f k1)))), (wr (u11_9 + (1 : Int))), (z0.1 != (u11_7.f (Int.toNat u11_9)))))) (
 .fail)) (
 .fail)))) (
 .bind (C9 (SAir.mk (aL.mk u11_1 u11_2) u11_3 u11_4) (au.mk u11_5 u11_6) u11_7 u11_9) fun z1 =>
 .ite (!z1.2) (
 .leaf (.r (u11_10, u11_7))) (
 .ite u11_10 (
 .ite (decide ((0 : Int) ≤ u11_9 ∧ u11_9 < ((u11_7.n : Nat) : Int))) (
 .leaf (.next ((Sq.mk u11_7.n (fun k2 => (cond (Nat.beq k2 (Int.toNat u11_9)) z1.1 (u11_7.f k2)))), (wr (u11_9 + (1 : Int))), true))) (
 .fail)) (
 .ite (decide ((0 : Int) ≤ u11_9 ∧ u11_9 < ((u11_7.n : Nat) : Int))) (
 .ite (decide ((0 : Int) ≤ u11_9 ∧ u11_9 < ((u11_7.n : Nat) : Int))) (
 .leaf (.next ((Sq.mk u11_7.n (fun k3 => (cond (Nat.beq k3 (Int.toNat u11_9)) z1.1 (u11_7.f k3)))), (wr (u11_9 + (1 : Int))), (z1.1 != (u11_7.f (Int.toNat u11_9)))))) (
 .fail)) (
 .fail)))))) (
 .fail)) (
 .leaf (.l (u11_10, u11_7)))
def lV : LpM := ⟨Bool × (Sq ay) × (Sq aB) × (Sq SFan) × (Sq aC) × (Sq Int) × (Sq Int) × (Sq Bool) × Int, (Sq Int) × Int × Bool, Bool × (Sq Int), Bool × (Sq Int), fun p => ⟨[(3, .bool p.1.1), (4, .ptr 0 0), (5, .ptr 64 0), (11, .own 960 0), (12, .own 1216 0), (13, .int .i64 p.1.2.2.2.2.2.2.2.2), (14, .bool p.2.2.2), (15, .int .i64 p.2.2.1)], [(0, .var [sqA 2 ay.enc p.1.2.1, sqA 10 aB.enc p.1.2.2.1, sqA 4 SFan.enc p.1.2.2.2.1, sqA 3 aC.enc p.1.2.2.2.2.1]), (64, .var [sqA 1 (eI .i64) p.1.2.2.2.2.2.1, sqA 1 (eI .i64) p.1.2.2.2.2.2.2.1]), (128, .nilrow 0), (960, rowA 0 1 3 (eI .i64) p.2.1), (1216, rowA 0 1 4 eO p.1.2.2.2.2.2.2.2.1)], 1664⟩, fun f v => dG f.1 f.2.1 f.2.2.1 f.2.2.2.1 f.2.2.2.2.1 f.2.2.2.2.2.1 f.2.2.2.2.2.2.1 f.2.2.2.2.2.2.2.1 f.2.2.2.2.2.2.2.2 v.1 v.2.1 v.2.2, false, (.exit 2), (fun x a => ⟨[(3, aget x.tm 3), (4, .ptr 0 0), (5, .ptr 64 0), (8, .undef), (9, .undef), (11, .own 960 0), (12, .own 1216 0), (13, aget x.tm 13), (14, .bool a.1)], [(0, blkS x 0), (64, blkS x 64), (128, .nilrow 0), (960, rowA 0 1 3 (eI .i64) a.2), (1216, blkS x 1216)], 1664⟩), .ret, (fun x a => ⟨[(3, aget x.tm 3), (4, .ptr 0 0), (5, .ptr 64 0), (8, .own 128 0), (9, .int .i64 (2 : Int)), (11, .own 960 0), (12, .own 1216 0), (13, aget x.tm 13), (14, .bool a.1)], [(0, blkS x 0), (64, blkS x 64), (128, .nilrow 0), (960, rowA 0 1 3 (eI .i64) a.2), (1216, blkS x 1216)], 1664⟩), c1, c1k⟩
def jh (u11_0 : Bool) (u11_1 : Sq ay) (u11_2 : Sq aB) (u11_3 : Sq SFan) (u11_4 : Sq aC) (u11_5 u11_6 : Sq Int) (u11_8 : Sq Bool) (u11_11 : Int) (u11_7 : Sq Int) (u11_9 : Int) (u11_10 : Bool) : Option ((Bool × (Sq Int)) ⊕ (Bool × (Sq Int))) := lV.val ((u11_0, u11_1, u11_2, u11_3, u11_4, u11_5, u11_6, u11_8, u11_11), (u11_7, u11_9, u11_10))
theorem pI (u11_0 : Bool) (u11_1 : Sq ay) (u11_2 : Sq aB) (u11_3 : Sq SFan) (u11_4 : Sq aC) (u11_5 u11_6 : Sq Int) (u11_8 : Sq Bool) (u11_11 : Int) (u11_7 : Sq Int) (u11_9 : Int) (u11_10 : Bool) : jh u11_0 u11_1 u11_2 u11_3 u11_4 u11_5 u11_6 u11_8 u11_11 u11_7 u11_9 u11_10 = fixO (fun v : (Sq Int) × Int × Bool => dG u11_0 u11_1 u11_2 u11_3 u11_4 u11_5 u11_6 u11_8 u11_11 v.1 v.2.1 v.2.2) (u11_7, u11_9, u11_10) := lV.val_eq (fun x => ((iR (aget x.tm 3), sqD ay.dec (cellS x 0 0), sqD aB.dec (cellS x 0 1), sqD SFan.dec (cellS x 0 2), sqD aC.dec (cellS x 0 3), sqD dI (cellS x 64 0), sqD dI (cellS x 64 1), sqB dO (blkS x 1216), intA (aget x.tm 13)), (sqB dI (blkS x 960), intA (aget x.tm 15), iR (aget x.tm 14)))) (fun p => by kernel_rfl) ((u11_0, u11_1, u11_2, u11_3, u11_4, u11_5, u11_6, u11_8, u11_11), (u11_7, u11_9, u11_10))
def dZ (u7_0 : Bool) (u7_1 : Sq ay) (u7_2 : Sq aB) (u7_3 : Sq SFan) (u7_4 : Sq aC) (u7_5 u7_6 : Sq Int) (u7_8 : Sq Bool) (u7_7 : Sq Int) (u7_9 : Int) : DT (LR ((Sq Int) × Int) ((Sq Int)) (((Sq Int)) ⊕ ((Sq Int)))) :=
 .ite (decide (u7_9 < (200 : Int))) (
 .sum (jh u7_0 u7_1 u7_2 u7_3 u7_4 u7_5 u7_6 u7_8 u7_9 u7_7 (0 : Int) false) (fun y0 =>
 .ite (!y0.1) (
 .leaf (.r (Sum.inl (y0.2)))) (
 .leaf (.next (y0.2, (wr (u7_9 + (1 : Int))))))) (fun y1 => .leaf (.r (Sum.inr (y1.2))))) (
 .leaf (.l u7_7))
def nK : LpM := ⟨Bool × (Sq ay) × (Sq aB) × (Sq SFan) × (Sq aC) × (Sq Int) × (Sq Int) × (Sq Bool), (Sq Int) × Int, (Sq Int), ((Sq Int)) ⊕ ((Sq Int)), fun p => ⟨[(3, .bool p.1.1), (4, .ptr 0 0), (5, .ptr 64 0), (11, .own 960 0), (12, .own 1216 0), (13, .int .i64 p.2.2)], [(0, .var [sqA 2 ay.enc p.1.2.1, sqA 10 aB.enc p.1.2.2.1, sqA 4 SFan.enc p.1.2.2.2.1, sqA 3 aC.enc p.1.2.2.2.2.1]), (64, .var [sqA 1 (eI .i64) p.1.2.2.2.2.2.1, sqA 1 (eI .i64) p.1.2.2.2.2.2.2.1]), (128, .nilrow 0), (960, rowA 0 1 3 (eI .i64) p.2.1), (1216, rowA 0 1 4 eO p.1.2.2.2.2.2.2.2)], 1408⟩, fun f v => dZ f.1 f.2.1 f.2.2.1 f.2.2.2.1 f.2.2.2.2.1 f.2.2.2.2.2.1 f.2.2.2.2.2.2.1 f.2.2.2.2.2.2.2 v.1 v.2, false, (.exit 0), (fun x a => ⟨[(8, .undef), (9, .undef)], [(0, blkS x 0), (64, blkS x 64), (128, .nilrow 0), (960, rowA 0 1 3 (eI .i64) a), (1216, blkS x 1216)], 1408⟩), .ret, (fun x y => match y with | .inl a => ⟨[(8, .own 960 0), (9, .int .i64 (0 : Int))], [(0, blkS x 0), (64, blkS x 64), (128, .nilrow 0), (960, rowA 0 1 3 (eI .i64) a), (1216, blkS x 1216)], 1408⟩ | .inr a => ⟨[(8, .own 128 0), (9, .int .i64 (2 : Int))], [(0, blkS x 0), (64, blkS x 64), (128, .nilrow 0), (960, rowA 0 1 3 (eI .i64) a), (1216, blkS x 1216)], 1408⟩), c2, c2k⟩
def jT (u7_0 : Bool) (u7_1 : Sq ay) (u7_2 : Sq aB) (u7_3 : Sq SFan) (u7_4 : Sq aC) (u7_5 u7_6 : Sq Int) (u7_8 : Sq Bool) (u7_7 : Sq Int) (u7_9 : Int) : Option (((Sq Int)) ⊕ (((Sq Int)) ⊕ ((Sq Int)))) := nK.val ((u7_0, u7_1, u7_2, u7_3, u7_4, u7_5, u7_6, u7_8), (u7_7, u7_9))
theorem xU (u7_0 : Bool) (u7_1 : Sq ay) (u7_2 : Sq aB) (u7_3 : Sq SFan) (u7_4 : Sq aC) (u7_5 u7_6 : Sq Int) (u7_8 : Sq Bool) (u7_7 : Sq Int) (u7_9 : Int) : jT u7_0 u7_1 u7_2 u7_3 u7_4 u7_5 u7_6 u7_8 u7_7 u7_9 = fixO (fun v : (Sq Int) × Int => dZ u7_0 u7_1 u7_2 u7_3 u7_4 u7_5 u7_6 u7_8 v.1 v.2) (u7_7, u7_9) := nK.val_eq (fun x => ((iR (aget x.tm 3), sqD ay.dec (cellS x 0 0), sqD aB.dec (cellS x 0 1), sqD SFan.dec (cellS x 0 2), sqD aC.dec (cellS x 0 3), sqD dI (cellS x 64 0), sqD dI (cellS x 64 1), sqB dO (blkS x 1216)), (sqB dI (blkS x 960), intA (aget x.tm 13)))) (fun p => by kernel_rfl) ((u7_0, u7_1, u7_2, u7_3, u7_4, u7_5, u7_6, u7_8), (u7_7, u7_9))
def BU (a : SAir) (s : au) (start : Sq Int) (up : Bool) : DT ((Sq Int) × Int) :=
 .bind (JU a s start) fun z2 =>
 .ite (z2 != (0 : Int)) (
 .leaf ((Sq.mk 0 (fun _ => (0 : Int))), z2)) (
 .ite (decide (start.n * 8 ≤ 140737488355328 ∧ start.n ≤ 1099511627776)) (
 .bind (Ea a.Mine) fun z3 =>
 .sum (jT up a.Mine.Places a.Mine.Roads a.Fans a.Doors s.Fans s.Doors z3 start (0 : Int)) (fun _ =>
 .leaf ((Sq.mk 0 (fun _ => (0 : Int))), (2 : Int))) (fun y2 => .sum (some y2) (fun y3 =>
 .leaf (y3, (0 : Int))) (fun _ => .leaf ((Sq.mk 0 (fun _ => (0 : Int))), (2 : Int))))) (
 .fail))
def jr : FnM := nfM (SAir × au × (Sq Int) × Bool) ((Sq Int) × Int) (fun p => ([.agg (SAir.enc p.1), .agg (au.enc p.2.1), sqA 1 (eI .i64) p.2.2.1, .bool p.2.2.2], [])) (fun p => BU p.1 p.2.1 p.2.2.1 p.2.2.2) (fun r => .tup [.own 0 0, .int .i64 r.2]) (fun _ r => [rowA 0 1 3 (eI .i64) r.1])
def Fz : Env := envM [(56, pE.c), (57, l8.c), (58, zq.c), (59, rG.c)] [(11, [3, 4, 5, 11, 12, 13, 14, 15], [3, 4, 5, 8, 9, 11, 12, 13, 14]), (7, [3, 4, 5, 11, 12, 13], [8, 9])] [(11, lV.c), (7, nK.c)] [(2000000, [.asrow 128 3 1 (fun _ => (eI .i64) (0 : Int))])] [(11, [0, 64, 128, 960, 1216]), (7, [0, 64, 128, 960, 1216]), (6000008, [128])] 0
def KN : Env := { Fz with nt := 79 }
theorem H8 : aG KN (aH 11 Tryz.f36) lV.c := lV.tells 1664 (fun _ => by kernel_rfl) (fun _ _ _ _ => by kernel_rfl) (fun _ _ _ _ => by kernel_rfl) fun R f v N K => by kernel_rfl
theorem JY : aG KN (aH 7 Tryz.f36) nK.c := nK.tells 1408 (fun _ => by kernel_rfl) (fun _ _ _ _ => by kernel_rfl) (fun _ _ _ _ => by kernel_rfl) fun R f v N K => by kernel_rfl
theorem Cr : aN Tryz.prog 36 jr.c := jr.tells Tryz.func36 (show ∀ p, arun Fz Tryz.f36 (jr.enc p).1 (jr.enc p).2 = _ from fun p => by kernel_rfl) (bf [aH 7 Tryz.f36, aH 11 Tryz.f36] (by kernel_rfl) ⟨lpT (by kernel_rfl) JY, ⟨lpT (by kernel_rfl) H8, trivial⟩⟩) (.cons H6 (.cons Ba (.cons P5 (.cons KJ .nil))))
def Bp (a : SAir) (s : au) (start : Sq Int) (up : Bool) : Option ((Sq Int) × Int) := jr.val (a, s, start, up)
theorem Vv (a : SAir) (s : au) (start : Sq Int) (up : Bool) : Bp a s start up = (BU a s start up).get := jr.val_eq (fun x => (SAir.dec (aggL (gd x.1 0)), au.dec (aggL (gd x.1 1)), sqD dI (gd x.1 2), iR (gd x.1 3))) (fun p => by kernel_rfl) (a, s, start, up)
def Ef (a : SAir) (s : au) (start : Sq Int) : DT ((Sq Int) × Int) :=
 .bind (Bp a s start true) fun z0 =>
 .leaf (z0.1, z0.2)
def kH : FnM := nfM (SAir × au × (Sq Int)) ((Sq Int) × Int) (fun p => ([.agg (SAir.enc p.1), .agg (au.enc p.2.1), sqA 1 (eI .i64) p.2.2], [])) (fun p => Ef p.1 p.2.1 p.2.2) (fun r => .tup [.own 0 0, .int .i64 r.2]) (fun _ r => [rowA 0 1 3 (eI .i64) r.1])
def Vt : Env := envM [(36, jr.c)] [(2000036, [], [])] [] [] [] 0
theorem Eh : aN Tryz.prog 14 kH.c := kH.tells Tryz.func14 (show ∀ p, arun Vt Tryz.f14 (kH.enc p).1 (kH.enc p).2 = _ from fun p => by kernel_rfl) aP (.cons Cr .nil)
def CP (a : SAir) (s : au) (start : Sq Int) : Option ((Sq Int) × Int) := kH.val (a, s, start)
theorem Xz (a : SAir) (s : au) (start : Sq Int) : CP a s start = (Ef a s start).get := kH.val_eq (fun x => (SAir.dec (aggL (gd x.1 0)), au.dec (aggL (gd x.1 1)), sqD dI (gd x.1 2))) (fun p => by kernel_rfl) (a, s, start)
def Ec (a : SAir) (s : au) (start : Sq Int) : DT ((Sq Int) × Int) :=
 .bind (Bp a s start false) fun z0 =>
 .leaf (z0.1, z0.2)
def kG : FnM := nfM (SAir × au × (Sq Int)) ((Sq Int) × Int) (fun p => ([.agg (SAir.enc p.1), .agg (au.enc p.2.1), sqA 1 (eI .i64) p.2.2], [])) (fun p => Ec p.1 p.2.1 p.2.2) (fun r => .tup [.own 0 0, .int .i64 r.2]) (fun _ r => [rowA 0 1 3 (eI .i64) r.1])
def Vr : Env := envM [(36, jr.c)] [(2000036, [], [])] [] [] [] 0
theorem Ed : aN Tryz.prog 16 kG.c := kG.tells Tryz.func16 (show ∀ p, arun Vr Tryz.f16 (kG.enc p).1 (kG.enc p).2 = _ from fun p => by kernel_rfl) aP (.cons Cr .nil)
def zS (a : SAir) (s : au) (start : Sq Int) : Option ((Sq Int) × Int) := kG.val (a, s, start)
theorem Xx (a : SAir) (s : au) (start : Sq Int) : zS a s start = (Ec a s start).get := kG.val_eq (fun x => (SAir.dec (aggL (gd x.1 0)), au.dec (aggL (gd x.1 1)), sqD dI (gd x.1 2))) (fun p => by kernel_rfl) (a, s, start)
end
end Go.Proofs.YtmfiagdelnddkaaGreat.Ab
