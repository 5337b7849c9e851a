/- Mirrors of code, stage 12. -/
import Derived.Test.YtmfiagdelnddkaaGreatXkw
import Derived.Test.YtmfiagdelnddkaaGreatXkv
import Derived.Test.YtmfiagdelnddkaaGreatXks
namespace Go.Proofs.YtmfiagdelnddkaaGreat.Ab
noncomputable section
open Go
attribute [local irreducible] arun
def iK (u5_0 : Sq ay) (u5_1 : Sq aB) (u5_2 : Sq SFan) (u5_3 : Sq aC) (u5_4 u5_5 : Sq Int) (u5_6 : (Sq (Sq Int))) (u5_7 : Int) : DT (LR (Int) (Unit) (Unit)) :=
 .ite (decide (u5_7 < (3 : Int))) (
 .ite (decide ((0 : Int) ≤ u5_7 ∧ u5_7 < ((u5_6.n : Nat) : Int))) (
 .bind (CQ (SAir.mk (aL.mk u5_0 u5_1) u5_2 u5_3) (au.mk u5_4 u5_5) (u5_6.f (Int.toNat u5_7))) fun z0 =>
 .bind (CP (SAir.mk (aL.mk u5_0 u5_1) u5_2 u5_3) (au.mk u5_4 u5_5) (u5_6.f (Int.toNat u5_7))) fun z1 =>
 .bind (zT (SAir.mk (aL.mk u5_0 u5_1) u5_2 u5_3) (au.mk u5_4 u5_5) (u5_6.f (Int.toNat u5_7))) fun z2 =>
 .bind (zS (SAir.mk (aL.mk u5_0 u5_1) u5_2 u5_3) (au.mk u5_4 u5_5) (u5_6.f (Int.toNat u5_7))) fun z3 =>
 .ite (z0.2 != z1.2) (
 .leaf (.r ())) (
 .ite (z2.2 != z3.2) (
 .leaf (.r ())) (
 .bind (fJ z0.1 z1.1) fun z4 =>
 .ite (!z4) (
 .leaf (.r ())) (
 .bind (fJ z2.1 z3.1) fun z5 =>
 .ite (!z5) (
 .leaf (.r ())) (
 .leaf (.next (wr (u5_7 + (1 : Int))))))))) (
 .fail)) (
 .leaf (.l ()))
def ku : LpM := ⟨(Sq ay) × (Sq aB) × (Sq SFan) × (Sq aC) × (Sq Int) × (Sq Int) × (Sq (Sq Int)), Int, Unit, Unit, fun p => ⟨[(6, .ptr 640 0), (7, .ptr 704 0), (36, .own 1600 0), (37, .int .i64 (3 : Int)), (38, .int .i64 p.2)], [(324, .dead 0), (325, .dead 0), (640, .var [sqA 2 ay.enc p.1.1, sqA 10 aB.enc p.1.2.1, sqA 4 SFan.enc p.1.2.2.1, sqA 3 aC.enc p.1.2.2.2.1]), (704, .var [sqA 1 (eI .i64) p.1.2.2.2.2.1, sqA 1 (eI .i64) p.1.2.2.2.2.2.1]), (1600, rowA 0 1 23 (eQ 1 (eI .i64)) p.1.2.2.2.2.2.2)], 1792⟩, fun f v => iK f.1 f.2.1 f.2.2.1 f.2.2.2.1 f.2.2.2.2.1 f.2.2.2.2.2.1 f.2.2.2.2.2.2 v, false, (.exit 0), (fun x _ => ⟨[(4, .undef)], [(324, .dead 0), (325, .dead 0), (640, blkS x 640), (704, blkS x 704), (1600, blkS x 1600)], 1792⟩), .ret, (fun x _ => ⟨[(4, .bool false)], [(324, .dead 0), (325, .dead 0), (640, blkS x 640), (704, blkS x 704), (1600, blkS x 1600)], 1792⟩), c1, c1k⟩
def yX (u5_0 : Sq ay) (u5_1 : Sq aB) (u5_2 : Sq SFan) (u5_3 : Sq aC) (u5_4 u5_5 : Sq Int) (u5_6 : (Sq (Sq Int))) (u5_7 : Int) : Option ((Unit) ⊕ (Unit)) := ku.val ((u5_0, u5_1, u5_2, u5_3, u5_4, u5_5, u5_6), u5_7)
theorem K5 (u5_0 : Sq ay) (u5_1 : Sq aB) (u5_2 : Sq SFan) (u5_3 : Sq aC) (u5_4 u5_5 : Sq Int) (u5_6 : (Sq (Sq Int))) (u5_7 : Int) : yX u5_0 u5_1 u5_2 u5_3 u5_4 u5_5 u5_6 u5_7 = fixO (fun v : Int => iK u5_0 u5_1 u5_2 u5_3 u5_4 u5_5 u5_6 v) u5_7 := ku.val_eq (fun x => ((sqD ay.dec (cellS x 640 0), sqD aB.dec (cellS x 640 1), sqD SFan.dec (cellS x 640 2), sqD aC.dec (cellS x 640 3), sqD dI (cellS x 704 0), sqD dI (cellS x 704 1), sqB (dQ dI) (blkS x 1600)), intA (aget x.tm 38))) (fun p => by kernel_rfl) ((u5_0, u5_1, u5_2, u5_3, u5_4, u5_5, u5_6), u5_7)
def uY (codes raw : Sq Int) : DT (Bool) :=
 .bind (New codes) fun z6 =>
 .bind (wW z6) fun z7 =>
 .bind (DK (aJ.mk z6.l_ z7.2.2.2) z7.1 z7.2.2.1) fun z8 =>
 .sum (yX z7.1.Mine.Places z7.1.Mine.Roads z7.1.Fans z7.1.Doors z7.2.1.Fans z7.2.1.Doors (Sq.mk 3 (fun k0 => (Sq.mk (cond (Nat.beq k0 0) z8.1.n (cond (Nat.beq (k0 - 1) 0) raw.n z7.2.2.1.Pressures.n)) (fun k1 => (cond (Nat.beq k0 0) (z8.1.f k1) (cond (Nat.beq (k0 - 1) 0) (raw.f k1) (z7.2.2.1.Pressures.f k1))))))) (0 : Int)) (fun _ =>
 .bind (fB) fun z9 =>
 .leaf z9) (fun _ => .leaf false)
def gB : FnM := flM ((Sq Int) × (Sq Int)) (Bool) (fun p => ([sqA 1 (eI .u8) p.1, sqA 1 (eI .i64) p.2], [])) (fun p => uY p.1 p.2) (fun r => .bool r) (fun _ => rfl)
def Co : Env := envM [(10, Uj.c), (11, iF.c), (12, jg.c), (13, kJ.c), (14, kH.c), (15, kI.c), (16, kG.c), (17, kD.c), (18, dA.c)] [(5, [6, 7, 36, 37, 38], [4]), (2000013, [], []), (2000014, [], []), (2000015, [], []), (2000016, [], [])] [(5, ku.c)] [(3, [.freeze 320, .freeze 321, .freeze 322, .freeze 323]), (4, [.freeze 1216]), (7, [.freeze 324, .freeze 325]), (1000005, [.freeze 324, .freeze 325])] [(5, [324, 325, 640, 704, 1600])] 0
def SB : Env := { Co with nt := 92 }
theorem F8 : aG SB (aH 5 Tryz.f3) ku.c := ku.tells 1792 (fun _ => by kernel_rfl) (fun _ _ _ _ => by kernel_rfl) (fun _ _ _ _ => by kernel_rfl) fun R f v N K => by kernel_rfl
theorem acF : aN Tryz.prog 3 gB.c := gB.tells Tryz.func3 (show ∀ p, arun Co Tryz.f3 (gB.enc p).1 (gB.enc p).2 = _ from fun p => by kernel_rfl) (bf [aH 5 Tryz.f3] (by kernel_rfl) ⟨lpT (by kernel_rfl) F8, trivial⟩) (.cons Df (.cons kQ (.cons AY (.cons En (.cons Eh (.cons El (.cons Ed (.cons ug (.cons jR .nil)))))))))
def WT (codes raw : Sq Int) : Option (Bool) := gB.val (codes, raw)
theorem aeE (codes raw : Sq Int) : WT codes raw = (uY codes raw).get := gB.val_eq (fun x => (sqD dI (gd x.1 0), sqD dI (gd x.1 1))) (fun p => by kernel_rfl) (codes, raw)
theorem adZ : ∀ a b, gB.enc a = gB.enc b → a = b := linj (fun x => (sqD dI (gd x.1 0), sqD dI (gd x.1 1))) (fun p => by kernel_rfl)
end
end Go.Proofs.YtmfiagdelnddkaaGreat.Ab
