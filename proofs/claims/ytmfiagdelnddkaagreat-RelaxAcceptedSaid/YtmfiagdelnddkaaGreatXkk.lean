/- Mirrors of code, stage 12. -/
import Derived.Test.YtmfiagdelnddkaaGreatXkv
namespace Go.Proofs.YtmfiagdelnddkaaGreat.Ab
noncomputable section
open Go
attribute [local irreducible] arun
def fq (u9_0 u9_2 u9_3 : Sq Int) (u9_4 : Sq Bool) (u9_5 : Int) : DT (LR (Int) (Unit) (Unit)) :=
 .ite (decide (u9_5 < ((u9_0.n : Nat) : Int))) (
 .ite (decide ((0 : Int) ≤ u9_5 ∧ u9_5 < ((u9_0.n : Nat) : Int))) (
 .ite (decide ((0 : Int) ≤ u9_5 ∧ u9_5 < ((u9_2.n : Nat) : Int))) (
 .ite (decide ((0 : Int) ≤ u9_5 ∧ u9_5 < ((u9_3.n : Nat) : Int))) (
 .ite (decide ((u9_2.f (Int.toNat u9_5)) > (u9_3.f (Int.toNat u9_5)))) (
 .leaf (.r ())) (
 .ite (decide ((0 : Int) ≤ u9_5 ∧ u9_5 < ((u9_4.n : Nat) : Int))) (
 .ite (u9_4.f (Int.toNat u9_5)) (
 .ite (decide ((0 : Int) ≤ u9_5 ∧ u9_5 < ((u9_2.n : Nat) : Int))) (
 .ite (decide ((u9_0.f (Int.toNat u9_5)) < (u9_2.f (Int.toNat u9_5)))) (
 .leaf (.r ())) (
 .ite (decide ((0 : Int) ≤ u9_5 ∧ u9_5 < ((u9_3.n : Nat) : Int))) (
 .ite (decide ((u9_0.f (Int.toNat u9_5)) > (u9_3.f (Int.toNat u9_5)))) (
 .leaf (.r ())) (
 .leaf (.next (wr (u9_5 + (1 : Int)))))) (
 .fail))) (
 .fail)) (
 .leaf (.next (wr (u9_5 + (1 : Int)))))) (
 .fail))) (
 .fail)) (
 .fail)) (
 .fail)) (
 .leaf (.l ()))
def iJ : LpM := ⟨(Sq Int) × (Sq Int) × (Sq Int) × (Sq Bool), Int, Unit, Unit, fun p => ⟨[(6, .ptr 1280 0), (8, .own 3648 0), (58, sqA 1 (eI .i64) p.1.1), (59, .int .i64 ((p.1.1.n : Nat) : Int)), (60, .int .i64 p.2)], [(1024, rowA 0 1 3 (eI .i64) p.1.2.1), (1025, rowA 0 1 3 (eI .i64) p.1.2.2.1), (1280, .var [.own 1024 0, .own 1025 0]), (3648, rowA 0 1 4 eO p.1.2.2.2)], 4032⟩, fun f v => fq f.1 f.2.1 f.2.2.1 f.2.2.2 v, false, (.exit 0), (fun x _ => ⟨[(2, .undef)], [(1024, blkS x 1024), (1025, blkS x 1025), (1280, .var [.own 1024 0, .own 1025 0]), (3648, blkS x 3648)], 4032⟩), .ret, (fun x _ => ⟨[(2, .bool false)], [(1024, blkS x 1024), (1025, blkS x 1025), (1280, .var [.own 1024 0, .own 1025 0]), (3648, blkS x 3648)], 4032⟩), c1, c1k⟩
def uP (u9_0 u9_2 u9_3 : Sq Int) (u9_4 : Sq Bool) (u9_5 : Int) : Option ((Unit) ⊕ (Unit)) := iJ.val ((u9_0, u9_2, u9_3, u9_4), u9_5)
theorem F7 (u9_0 u9_2 u9_3 : Sq Int) (u9_4 : Sq Bool) (u9_5 : Int) : uP u9_0 u9_2 u9_3 u9_4 u9_5 = fixO (fun v : Int => fq u9_0 u9_2 u9_3 u9_4 v) u9_5 := iJ.val_eq (fun x => ((sqD dI (aget x.tm 58), sqB dI (blkS x 1024), sqB dI (blkS x 1025), sqB dO (blkS x 3648)), intA (aget x.tm 60))) (fun p => by kernel_rfl) ((u9_0, u9_2, u9_3, u9_4), u9_5)
def oM (codes : Sq Int) : DT (Bool) :=
 .bind (New codes) fun z0 =>
 .bind (wW z0) fun z1 =>
 .bind (wJ z1.1 z1.2.1) fun z2 =>
 .ite (z2.2 != (0 : Int)) (
 .ite (z2.2 == (2 : Int)) (
 .bind (fB) fun z3 =>
 .leaf z3) (
 .leaf false)) (
 .bind (CB z1.1 z1.2.1 z2.1) fun z4 =>
 .ite (z4 != (0 : Int)) (
 .leaf false) (
 .ite (((z2.1.Low.n : Nat) : Int) != ((z1.2.2.1.Pressures.n : Nat) : Int)) (
 .leaf false) (
 .ite (((z2.1.High.n : Nat) : Int) != ((z1.2.2.1.Pressures.n : Nat) : Int)) (
 .leaf false) (
 .bind (C8 z1.1.Mine) fun z5 =>
 .sum (uP z1.2.2.1.Pressures z2.1.Low z2.1.High z5 (0 : Int)) (fun _ =>
 .bind (fB) fun z6 =>
 .leaf z6) (fun _ => .leaf false)))))
def cO : FnM := flM ((Sq Int)) (Bool) (fun p => ([sqA 1 (eI .u8) p], [])) (fun p => oM p) (fun r => .bool r) (fun _ => rfl)
def zO : Env := envM [(10, Uj.c), (11, iF.c), (20, j5.c), (18, dA.c), (22, kr.c), (23, mD.c)] [(9, [6, 8, 58, 59, 60], [2])] [(9, iJ.c)] [(2, [.freeze 192, .freeze 193, .freeze 194, .freeze 195, .freeze 196, .freeze 197])] [(9, [1024, 1025, 1280, 3648])] 0
def Mq : Env := { zO with nt := 102 }
theorem CJ : aG Mq (aH 9 Tryz.f6) iJ.c := iJ.tells 4032 (fun _ => by kernel_rfl) (fun _ _ _ _ => by kernel_rfl) (fun _ _ _ _ => by kernel_rfl) fun R f v N K => by kernel_rfl
theorem ZT : aN Tryz.prog 6 cO.c := cO.tells Tryz.func6 (show ∀ p, arun zO Tryz.f6 (cO.enc p).1 (cO.enc p).2 = _ from fun p => by kernel_rfl) (bf [aH 9 Tryz.f6] (by kernel_rfl) ⟨lpT (by kernel_rfl) CJ, trivial⟩) (.cons Df (.cons kQ (.cons xk (.cons jR (.cons Dz (.cons yJ .nil))))))
def QO (codes : Sq Int) : Option (Bool) := cO.val codes
theorem acD (codes : Sq Int) : QO codes = (oM codes).get := cO.val_eq (fun x => sqD dI (gd x.1 0)) (fun p => by kernel_rfl) codes
theorem abE : ∀ a b, cO.enc a = cO.enc b → a = b := linj (fun x => sqD dI (gd x.1 0)) (fun p => by kernel_rfl)
end
end Go.Proofs.YtmfiagdelnddkaaGreat.Ab
