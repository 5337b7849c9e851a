/- Mirrors of code, stage 12. -/
import Derived.Test.YtmfiagdelnddkaaGreatXkv
import Derived.Test.YtmfiagdelnddkaaGreatXks
namespace Go.Proofs.YtmfiagdelnddkaaGreat.Ab
noncomputable section
open Go
attribute [local irreducible] arun
def gL (u4_0 : Sq ay) (u4_1 : Sq aB) (u4_2 : Sq SFan) (u4_3 : Sq aC) (u4_4 : Sq au) (u4_5 : Int) : DT (LR (Int) (Unit) (Unit)) :=
 .ite (decide (u4_5 < (2 : Int))) (
 .ite (decide ((0 : Int) ≤ u4_5 ∧ u4_5 < ((u4_4.n : Nat) : Int))) (
 .bind (wJ (SAir.mk (aL.mk u4_0 u4_1) u4_2 u4_3) (u4_4.f (Int.toNat u4_5))) fun z0 =>
 .bind (Ro (SAir.mk (aL.mk u4_0 u4_1) u4_2 u4_3) (u4_4.f (Int.toNat u4_5))) fun z1 =>
 .ite (z0.2 != z1.2) (
 .leaf (.r ())) (
 .bind (fJ z0.1.Low z1.1.Low) fun z2 =>
 .ite (!z2) (
 .leaf (.r ())) (
 .bind (fJ z0.1.High z1.1.High) fun z3 =>
 .ite (!z3) (
 .leaf (.r ())) (
 .leaf (.next (wr (u4_5 + (1 : Int)))))))) (
 .fail)) (
 .leaf (.l ()))
def jE : LpM := ⟨(Sq ay) × (Sq aB) × (Sq SFan) × (Sq aC) × (Sq au), Int, Unit, Unit, fun p => ⟨[(4, .ptr 640 0), (25, .own 1280 0), (26, .int .i64 (2 : Int)), (27, .int .i64 p.2)], [(640, .var [sqA 2 ay.enc p.1.1, sqA 10 aB.enc p.1.2.1, sqA 4 SFan.enc p.1.2.2.1, sqA 3 aC.enc p.1.2.2.2.1]), (1280, rowA 0 2 35 au.enc p.1.2.2.2.2)], 1472⟩, fun f v => gL f.1 f.2.1 f.2.2.1 f.2.2.2.1 f.2.2.2.2 v, false, (.exit 0), (fun x _ => ⟨[(2, .undef)], [(640, blkS x 640), (1280, blkS x 1280)], 1472⟩), .ret, (fun x _ => ⟨[(2, .bool false)], [(640, blkS x 640), (1280, blkS x 1280)], 1472⟩), c1, c1k⟩
def xQ (u4_0 : Sq ay) (u4_1 : Sq aB) (u4_2 : Sq SFan) (u4_3 : Sq aC) (u4_4 : Sq au) (u4_5 : Int) : Option ((Unit) ⊕ (Unit)) := jE.val ((u4_0, u4_1, u4_2, u4_3, u4_4), u4_5)
theorem Je (u4_0 : Sq ay) (u4_1 : Sq aB) (u4_2 : Sq SFan) (u4_3 : Sq aC) (u4_4 : Sq au) (u4_5 : Int) : xQ u4_0 u4_1 u4_2 u4_3 u4_4 u4_5 = fixO (fun v : Int => gL u4_0 u4_1 u4_2 u4_3 u4_4 v) u4_5 := jE.val_eq (fun x => ((sqD ay.dec (cellS x 640 0), sqD aB.dec (cellS x 640 1), sqD SFan.dec (cellS x 640 2), sqD aC.dec (cellS x 640 3), sqB au.dec (blkS x 1280)), intA (aget x.tm 27))) (fun p => by kernel_rfl) ((u4_0, u4_1, u4_2, u4_3, u4_4), u4_5)
def sJ (codes : Sq Int) : DT (Bool) :=
 .bind (New codes) fun z4 =>
 .bind (wW z4) fun z5 =>
 .bind (Ip (aJ.mk z4.l_ z5.2.2.2) z5.1) fun z6 =>
 .sum (xQ z5.1.Mine.Places z5.1.Mine.Roads z5.1.Fans z5.1.Doors (Sq.mk 2 (fun k0 => (au.mk (Sq.mk (cond (Nat.beq k0 0) z5.2.1.Fans.n z6.1.Fans.n) (fun k1 => (cond (Nat.beq k0 0) (z5.2.1.Fans.f k1) (z6.1.Fans.f k1)))) (Sq.mk (cond (Nat.beq k0 0) z5.2.1.Doors.n z6.1.Doors.n) (fun k2 => (cond (Nat.beq k0 0) (z5.2.1.Doors.f k2) (z6.1.Doors.f k2))))))) (0 : Int)) (fun _ =>
 .bind (fB) fun z7 =>
 .leaf z7) (fun _ => .leaf false)
def fA : FnM := flM ((Sq Int)) (Bool) (fun p => ([sqA 1 (eI .u8) p], [])) (fun p => sJ p) (fun r => .bool r) (fun _ => rfl)
def Bu : Env := envM [(10, Uj.c), (11, iF.c), (19, mJ.c), (20, j5.c), (21, tu.c), (17, kD.c), (18, dA.c)] [(4, [4, 25, 26, 27], [2])] [(4, jE.c)] [(3, [.freeze 320, .freeze 321, .freeze 322, .freeze 323, .freeze 324, .freeze 325])] [(4, [640, 1280])] 0
def QS : Env := { Bu with nt := 64 }
theorem EJ : aG QS (aH 4 Tryz.f4) jE.c := jE.tells 1472 (fun _ => by kernel_rfl) (fun _ _ _ _ => by kernel_rfl) (fun _ _ _ _ => by kernel_rfl) fun R f v N K => by kernel_rfl
theorem abG : aN Tryz.prog 4 fA.c := fA.tells Tryz.func4 (show ∀ p, arun Bu Tryz.f4 (fA.enc p).1 (fA.enc p).2 = _ from fun p => by kernel_rfl) (bf [aH 4 Tryz.f4] (by kernel_rfl) ⟨lpT (by kernel_rfl) EJ, trivial⟩) (.cons Df (.cons kQ (.cons Qi (.cons xk (.cons Vu (.cons ug (.cons jR .nil)))))))
def UU (codes : Sq Int) : Option (Bool) := fA.val codes
theorem ad1 (codes : Sq Int) : UU codes = (sJ codes).get := fA.val_eq (fun x => sqD dI (gd x.1 0)) (fun p => by kernel_rfl) codes
theorem ado : ∀ a b, fA.enc a = fA.enc b → a = b := linj (fun x => sqD dI (gd x.1 0)) (fun p => by kernel_rfl)
end
end Go.Proofs.YtmfiagdelnddkaaGreat.Ab
