/- Mirrors of code, stage 12. -/
import Derived.Test.YtmfiagdelnddkaaGreatXd
namespace Go.Proofs.YtmfiagdelnddkaaGreat.Ab
noncomputable section
open Go
attribute [local irreducible] arun
def sK (u4_0 : Sq ay) (u4_2 : Sq Int) (u4_5 : Sq Bool) (u4_3 : Int) (u4_4 : Sq Int) (u4_6 : Int) : DT (LR (Int × (Sq Int) × Int) (Int × (Sq Int)) (Unit)) :=
 .ite (decide (u4_6 < ((u4_0.n : Nat) : Int))) (
 .ite (decide ((0 : Int) ≤ u4_6 ∧ u4_6 < ((u4_0.n : Nat) : Int))) (
 .ite (u4_0.f (Int.toNat u4_6)).Surface (
 .ite (decide ((0 : Int) ≤ u4_6 ∧ u4_6 < ((u4_4.n : Nat) : Int))) (
 .leaf (.next (u4_3, (Sq.mk u4_4.n (fun k0 => (cond (Nat.beq k0 (Int.toNat u4_6)) (0 : Int) (u4_4.f k0)))), (wr (u4_6 + (1 : Int)))))) (
 .fail)) (
 .ite (decide ((0 : Int) ≤ u4_6 ∧ u4_6 < ((u4_5.n : Nat) : Int))) (
 .ite (!(u4_5.f (Int.toNat u4_6))) (
 .ite (decide ((0 : Int) ≤ u4_6 ∧ u4_6 < ((u4_4.n : Nat) : Int))) (
 .leaf (.next (u4_3, (Sq.mk u4_4.n (fun k1 => (cond (Nat.beq k1 (Int.toNat u4_6)) (0 : Int) (u4_4.f k1)))), (wr (u4_6 + (1 : Int)))))) (
 .fail)) (
 .ite (decide ((0 : Int) ≤ u4_6 ∧ u4_6 < ((u4_4.n : Nat) : Int))) (
 .bind (iw (aJ.mk u4_2 u4_3) (-6000 : Int) (6000 : Int)) fun z0 =>
 .ite (decide ((0 : Int) ≤ u4_6 ∧ u4_6 < ((u4_4.n : Nat) : Int))) (
 .leaf (.next (z0.2, (Sq.mk u4_4.n (fun k2 => (cond (Nat.beq k2 (Int.toNat u4_6)) (wr ((u4_4.f (Int.toNat u4_6)) + z0.1)) (u4_4.f k2)))), (wr (u4_6 + (1 : Int)))))) (
 .fail)) (
 .fail))) (
 .fail))) (
 .fail)) (
 .leaf (.l (u4_3, u4_4)))
def tX : LpM := ⟨(Sq ay) × (Sq Int) × (Sq Bool), Int × (Sq Int) × Int, Int × (Sq Int), Unit, fun p => ⟨[(0, .ptr 0 0), (7, .own 321 0), (8, .own 577 0), (19, sqA 2 ay.enc p.1.1), (20, .int .i64 ((p.1.1.n : Nat) : Int)), (21, .int .i64 p.2.2.2)], [(0, .var [sqA 1 (eI .u8) p.1.2.1, .int .i64 p.2.1]), (321, rowA 0 1 3 (eI .i64) p.2.2.1), (577, rowA 0 1 4 eO p.1.2.2)], 1025⟩, fun f v => sK f.1 f.2.1 f.2.2 v.1 v.2.1 v.2.2, true, (.exit 0), (fun x a => ⟨[(7, .own 321 0)], [(0, .var [cellS x 0 0, .int .i64 a.1]), (321, rowA 0 1 3 (eI .i64) a.2), (577, blkS x 577)], 1025⟩), .ret, (fun _ _ => ⟨[], [], 0⟩), c1, c1k⟩
def PI (u4_0 : Sq ay) (u4_2 : Sq Int) (u4_5 : Sq Bool) (u4_3 : Int) (u4_4 : Sq Int) (u4_6 : Int) : Option ((Int × (Sq Int)) ⊕ (Unit)) := tX.val ((u4_0, u4_2, u4_5), (u4_3, u4_4, u4_6))
theorem UW (u4_0 : Sq ay) (u4_2 : Sq Int) (u4_5 : Sq Bool) (u4_3 : Int) (u4_4 : Sq Int) (u4_6 : Int) : PI u4_0 u4_2 u4_5 u4_3 u4_4 u4_6 = fixO (fun v : Int × (Sq Int) × Int => sK u4_0 u4_2 u4_5 v.1 v.2.1 v.2.2) (u4_3, u4_4, u4_6) := tX.val_eq (fun x => ((sqD ay.dec (aget x.tm 19), sqD dI (cellS x 0 0), sqB dO (blkS x 577)), (intA (cellS x 0 1), sqB dI (blkS x 321), intA (aget x.tm 21)))) (fun p => by kernel_rfl) ((u4_0, u4_2, u4_5), (u4_3, u4_4, u4_6))
def Jj (c : aJ) (a : SAir) (x : dN) : DT ((Sq Int) × Int) :=
 .ite (decide (x.Pressures.n * 8 ≤ 140737488355328 ∧ x.Pressures.n ≤ 1099511627776)) (
 .bind (C8 a.Mine) fun z1 =>
 .sum (PI a.Mine.Places c.l_ z1 c.at_ x.Pressures (0 : Int)) (fun y0 =>
 .leaf (y0.2, y0.1)) (fun _ => .fail)) (
 .fail)
def jg : FnM := nfM (aJ × SAir × dN) ((Sq Int) × Int) (fun p => ([.ptr 0 0, .agg (SAir.enc p.2.1), .agg (dN.enc p.2.2)], [.var (aJ.enc p.1)])) (fun p => Jj p.1 p.2.1 p.2.2) (fun _ => .own 1 0) (fun ins r => [.var [R8 ins 0 0, .int .i64 r.2], rowA 0 1 3 (eI .i64) r.1])
def Ms : Env := envM [(23, mD.c), (29, iT.c)] [(4, [0, 7, 8, 19, 20, 21], [7])] [(4, tX.c)] [] [(4, [0, 321, 577])] 1
def abI : Env := { Ms with nt := 48 }
theorem OP : aG abI (aH 4 Tryz.f12) tX.c := tX.tells 1025 (fun _ => by kernel_rfl) (fun _ _ _ _ => by kernel_rfl) (fun _ _ _ _ => by kernel_rfl) fun R f v N K => by kernel_rfl
theorem AY : aN Tryz.prog 12 jg.c := jg.tells Tryz.func12 (show ∀ p, arun Ms Tryz.f12 (jg.enc p).1 (jg.enc p).2 = _ from fun p => by kernel_rfl) (bf [aH 4 Tryz.f12] (by kernel_rfl) ⟨lpT (by kernel_rfl) OP, trivial⟩) (.cons yJ (.cons qB .nil))
def DK (c : aJ) (a : SAir) (x : dN) : Option ((Sq Int) × Int) := jg.val (c, a, x)
theorem ZW (c : aJ) (a : SAir) (x : dN) : DK c a x = (Jj c a x).get := jg.val_eq (fun x => (aJ.dec (varL (dB x.2 0)), SAir.dec (aggL (gd x.1 1)), dN.dec (aggL (gd x.1 2)))) (fun p => by kernel_rfl) (c, a, x)
theorem ahp : ∀ a b, jg.enc a = jg.enc b → a = b := linj (fun x => (aJ.dec (varL (dB x.2 0)), SAir.dec (aggL (gd x.1 1)), dN.dec (aggL (gd x.1 2)))) (fun p => by kernel_rfl)
end
end Go.Proofs.YtmfiagdelnddkaaGreat.Ab
