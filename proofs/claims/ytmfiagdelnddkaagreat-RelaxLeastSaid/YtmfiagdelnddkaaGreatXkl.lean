/- Mirrors of code, stage 12. -/
import Derived.Test.YtmfiagdelnddkaaGreatXkw
import Derived.Test.YtmfiagdelnddkaaGreatXkv
namespace Go.Proofs.YtmfiagdelnddkaaGreat.Ab
noncomputable section
open Go
attribute [local irreducible] arun
def gK (_u11_0 : Int) (u11_1 : Sq ay) (u11_3 : Sq aB) (u11_4 : Sq SFan) (u11_5 : Sq aC) (u11_6 u11_7 u11_8 u11_9 : Sq Int) (u11_10 : Sq Bool) (u11_11 : Int) : DT (LR (Int) (Unit) (Unit)) :=
 .ite (decide (u11_11 < ((u11_1.n : Nat) : Int))) (
 .ite (decide ((0 : Int) ≤ u11_11 ∧ u11_11 < ((u11_1.n : Nat) : Int))) (
 .ite (decide ((0 : Int) ≤ u11_11 ∧ u11_11 < ((u11_9.n : Nat) : Int))) (
 .ite (decide ((0 : Int) ≤ u11_11 ∧ u11_11 < ((u11_8.n : Nat) : Int))) (
 .ite (decide ((u11_9.f (Int.toNat u11_11)) < (u11_8.f (Int.toNat u11_11)))) (
 .leaf (.r ())) (
 .ite (!(u11_1.f (Int.toNat u11_11)).Surface) (
 .ite (decide ((0 : Int) ≤ u11_11 ∧ u11_11 < ((u11_10.n : Nat) : Int))) (
 .ite (u11_10.f (Int.toNat u11_11)) (
 .bind (Dj (SAir.mk (aL.mk u11_1 u11_3) u11_4 u11_5) (au.mk u11_6 u11_7) u11_9 u11_11) fun z0 =>
 .ite (decide (z0.Low < (0 : Int))) (
 .leaf (.r ())) (
 .leaf (.next (wr (u11_11 + (1 : Int)))))) (
 .leaf (.next (wr (u11_11 + (1 : Int)))))) (
 .fail)) (
 .leaf (.next (wr (u11_11 + (1 : Int))))))) (
 .fail)) (
 .fail)) (
 .fail)) (
 .leaf (.l ()))
def jC : LpM := ⟨Int × (Sq ay) × (Sq aB) × (Sq SFan) × (Sq aC) × (Sq Int) × (Sq Int) × (Sq Int) × (Sq Int) × (Sq Bool), Int, Unit, Unit, fun p => ⟨[(1, .int .u16 p.1.1), (6, .ptr 640 0), (7, .ptr 704 0), (9, .own 1216 0), (10, .own 1536 0), (12, .own 2944 0), (57, sqA 2 ay.enc p.1.2.1), (58, .int .i64 ((p.1.2.1.n : Nat) : Int)), (59, .int .i64 p.2)], [(640, .var [sqA 2 ay.enc p.1.2.1, sqA 10 aB.enc p.1.2.2.1, sqA 4 SFan.enc p.1.2.2.2.1, sqA 3 aC.enc p.1.2.2.2.2.1]), (704, .var [sqA 1 (eI .i64) p.1.2.2.2.2.2.1, sqA 1 (eI .i64) p.1.2.2.2.2.2.2.1]), (1216, rowA 0 1 3 (eI .i64) p.1.2.2.2.2.2.2.2.1), (1536, rowA 0 1 3 (eI .i64) p.1.2.2.2.2.2.2.2.2.1), (2944, rowA 0 1 4 eO p.1.2.2.2.2.2.2.2.2.2)], 3392⟩, fun f v => gK f.1 f.2.1 f.2.2.1 f.2.2.2.1 f.2.2.2.2.1 f.2.2.2.2.2.1 f.2.2.2.2.2.2.1 f.2.2.2.2.2.2.2.1 f.2.2.2.2.2.2.2.2.1 f.2.2.2.2.2.2.2.2.2 v, false, (.exit 0), (fun x _ => ⟨[(1, aget x.tm 1), (4, .undef), (6, .ptr 640 0), (7, .ptr 704 0), (9, .own 1216 0), (10, .own 1536 0)], [(640, blkS x 640), (704, blkS x 704), (1216, blkS x 1216), (1536, blkS x 1536), (2944, blkS x 2944)], 3392⟩), .ret, (fun x _ => ⟨[(1, aget x.tm 1), (4, .bool false), (6, .ptr 640 0), (7, .ptr 704 0), (9, .own 1216 0), (10, .own 1536 0)], [(640, blkS x 640), (704, blkS x 704), (1216, blkS x 1216), (1536, blkS x 1536), (2944, blkS x 2944)], 3392⟩), c1, c1k⟩
def xP (u11_0 : Int) (u11_1 : Sq ay) (u11_3 : Sq aB) (u11_4 : Sq SFan) (u11_5 : Sq aC) (u11_6 u11_7 u11_8 u11_9 : Sq Int) (u11_10 : Sq Bool) (u11_11 : Int) : Option ((Unit) ⊕ (Unit)) := jC.val ((u11_0, u11_1, u11_3, u11_4, u11_5, u11_6, u11_7, u11_8, u11_9, u11_10), u11_11)
theorem Jc (u11_0 : Int) (u11_1 : Sq ay) (u11_3 : Sq aB) (u11_4 : Sq SFan) (u11_5 : Sq aC) (u11_6 u11_7 u11_8 u11_9 : Sq Int) (u11_10 : Sq Bool) (u11_11 : Int) : xP u11_0 u11_1 u11_3 u11_4 u11_5 u11_6 u11_7 u11_8 u11_9 u11_10 u11_11 = fixO (fun v : Int => gK u11_0 u11_1 u11_3 u11_4 u11_5 u11_6 u11_7 u11_8 u11_9 u11_10 v) u11_11 := jC.val_eq (fun x => ((intA (aget x.tm 1), sqD ay.dec (aget x.tm 57), sqD aB.dec (cellS x 640 1), sqD SFan.dec (cellS x 640 2), sqD aC.dec (cellS x 640 3), sqD dI (cellS x 704 0), sqD dI (cellS x 704 1), sqB dI (blkS x 1216), sqB dI (blkS x 1536), sqB dO (blkS x 2944)), intA (aget x.tm 59))) (fun p => by kernel_rfl) ((u11_0, u11_1, u11_3, u11_4, u11_5, u11_6, u11_7, u11_8, u11_9, u11_10), u11_11)
def jY (u18_0 : Int) (_u18_2 : Sq ay) (_u18_3 : Sq aB) (_u18_4 : Sq SFan) (_u18_5 : Sq aC) (_u18_6 _u18_7 u18_8 u18_9 : Sq Int) (u18_10 : Int) (u18_11 : Sq Int) : DT (LR (Int × (Sq Int)) ((Sq Int)) (Unit)) :=
 .ite (decide (u18_10 < ((u18_8.n : Nat) : Int))) (
 .ite (decide ((0 : Int) ≤ u18_10 ∧ u18_10 < ((u18_11.n : Nat) : Int))) (
 .ite (decide ((0 : Int) ≤ u18_10 ∧ u18_10 < ((u18_9.n : Nat) : Int))) (
 .ite (decide ((0 : Int) ≤ u18_10 ∧ u18_10 < ((u18_8.n : Nat) : Int))) (
 .bind (Mod (wr u18_0) (wr ((wr ((u18_9.f (Int.toNat u18_10)) - (u18_8.f (Int.toNat u18_10)))) + (1 : Int)))) fun z1 =>
 .ite (decide ((0 : Int) ≤ u18_10 ∧ u18_10 < ((u18_11.n : Nat) : Int))) (
 .leaf (.next ((wr (u18_10 + (1 : Int))), (Sq.mk u18_11.n (fun k0 => (cond (Nat.beq k0 (Int.toNat u18_10)) (wr ((u18_11.f (Int.toNat u18_10)) + z1)) (u18_11.f k0))))))) (
 .fail)) (
 .fail)) (
 .fail)) (
 .fail)) (
 .leaf (.l u18_11))
def jD : LpM := ⟨Int × (Sq ay) × (Sq aB) × (Sq SFan) × (Sq aC) × (Sq Int) × (Sq Int) × (Sq Int) × (Sq Int), Int × (Sq Int), (Sq Int), Unit, fun p => ⟨[(1, .int .u16 p.1.1), (6, .ptr 640 0), (7, .ptr 704 0), (9, .own 1216 0), (10, .own 1536 0), (15, .own 3456 0), (97, .int .i64 ((p.1.2.2.2.2.2.2.2.1.n : Nat) : Int)), (98, .int .i64 p.2.1)], [(640, .var [sqA 2 ay.enc p.1.2.1, sqA 10 aB.enc p.1.2.2.1, sqA 4 SFan.enc p.1.2.2.2.1, sqA 3 aC.enc p.1.2.2.2.2.1]), (704, .var [sqA 1 (eI .i64) p.1.2.2.2.2.2.1, sqA 1 (eI .i64) p.1.2.2.2.2.2.2.1]), (1216, rowA 0 1 3 (eI .i64) p.1.2.2.2.2.2.2.2.1), (1536, rowA 0 1 3 (eI .i64) p.1.2.2.2.2.2.2.2.2), (3456, rowA 0 1 3 (eI .i64) p.2.2)], 3776⟩, fun f v => jY f.1 f.2.1 f.2.2.1 f.2.2.2.1 f.2.2.2.2.1 f.2.2.2.2.2.1 f.2.2.2.2.2.2.1 f.2.2.2.2.2.2.2.1 f.2.2.2.2.2.2.2.2 v.1 v.2, true, (.exit 2), (fun x a => ⟨[(6, .ptr 640 0), (7, .ptr 704 0), (10, .own 1536 0), (15, .own 3456 0)], [(640, blkS x 640), (704, blkS x 704), (1216, blkS x 1216), (1536, blkS x 1536), (3456, rowA 0 1 3 (eI .i64) a)], 3776⟩), .ret, (fun _ _ => ⟨[], [], 0⟩), c1, c1k⟩
def Cn (u18_0 : Int) (u18_2 : Sq ay) (u18_3 : Sq aB) (u18_4 : Sq SFan) (u18_5 : Sq aC) (u18_6 u18_7 u18_8 u18_9 : Sq Int) (u18_10 : Int) (u18_11 : Sq Int) : Option (((Sq Int)) ⊕ (Unit)) := jD.val ((u18_0, u18_2, u18_3, u18_4, u18_5, u18_6, u18_7, u18_8, u18_9), (u18_10, u18_11))
theorem Jd (u18_0 : Int) (u18_2 : Sq ay) (u18_3 : Sq aB) (u18_4 : Sq SFan) (u18_5 : Sq aC) (u18_6 u18_7 u18_8 u18_9 : Sq Int) (u18_10 : Int) (u18_11 : Sq Int) : Cn u18_0 u18_2 u18_3 u18_4 u18_5 u18_6 u18_7 u18_8 u18_9 u18_10 u18_11 = fixO (fun v : Int × (Sq Int) => jY u18_0 u18_2 u18_3 u18_4 u18_5 u18_6 u18_7 u18_8 u18_9 v.1 v.2) (u18_10, u18_11) := jD.val_eq (fun x => ((intA (aget x.tm 1), sqD ay.dec (cellS x 640 0), sqD aB.dec (cellS x 640 1), sqD SFan.dec (cellS x 640 2), sqD aC.dec (cellS x 640 3), sqD dI (cellS x 704 0), sqD dI (cellS x 704 1), sqB dI (blkS x 1216), sqB dI (blkS x 1536)), (intA (aget x.tm 98), sqB dI (blkS x 3456)))) (fun p => by kernel_rfl) ((u18_0, u18_2, u18_3, u18_4, u18_5, u18_6, u18_7, u18_8, u18_9), (u18_10, u18_11))
def uX (codes : Sq Int) (by_ : Int) : DT (Bool) :=
 .bind (New codes) fun z2 =>
 .bind (wW z2) fun z3 =>
 .bind (DK (aJ.mk z2.l_ z3.2.2.2) z3.1 z3.2.2.1) fun z4 =>
 .bind (Bc z3.1 z3.2.1 z4.1) fun z5 =>
 .ite (z5.2 != (0 : Int)) (
 .ite (z5.2 == (2 : Int)) (
 .bind (fB) fun z6 =>
 .leaf z6) (
 .leaf false)) (
 .ite (((z5.1.n : Nat) : Int) != ((z4.1.n : Nat) : Int)) (
 .leaf false) (
 .bind (C8 z3.1.Mine) fun z7 =>
 .sum (xP by_ z3.1.Mine.Places z3.1.Mine.Roads z3.1.Fans z3.1.Doors z3.2.1.Fans z3.2.1.Doors z4.1 z5.1 z7 (0 : Int)) (fun _ =>
 .ite (decide (z4.1.n * 8 ≤ 140737488355328 ∧ z4.1.n ≤ 1099511627776)) (
 .sum (Cn by_ z3.1.Mine.Places z3.1.Mine.Roads z3.1.Fans z3.1.Doors z3.2.1.Fans z3.2.1.Doors z4.1 z5.1 (0 : Int) z4.1) (fun y0 =>
 .bind (Bc z3.1 z3.2.1 y0) fun z8 =>
 .bind (Bc z3.1 z3.2.1 z5.1) fun z9 =>
 .ite (z8.2 == (2 : Int)) (
 .ite (z9.2 == (0 : Int)) (
 .bind (fJ z9.1 z5.1) fun z10 =>
 .ite z10 (
 .bind (fB) fun z11 =>
 .leaf z11) (
 .leaf false)) (
 .leaf false)) (
 .ite (z8.2 == (0 : Int)) (
 .bind (fJ z8.1 z5.1) fun z12 =>
 .ite z12 (
 .ite (z9.2 == (0 : Int)) (
 .bind (fJ z9.1 z5.1) fun z13 =>
 .ite z13 (
 .bind (fB) fun z14 =>
 .leaf z14) (
 .leaf false)) (
 .leaf false)) (
 .leaf false)) (
 .leaf false))) (fun _ => .fail)) (
 .fail)) (fun _ => .leaf false)))
def gy : FnM := flM ((Sq Int) × Int) (Bool) (fun p => ([sqA 1 (eI .u8) p.1, .int .u16 p.2], [])) (fun p => uX p.1 p.2) (fun r => .bool r) (fun _ => rfl)
def Cm : Env := envM [(10, Uj.c), (11, iF.c), (12, jg.c), (13, pJ.c), (18, dA.c), (23, mD.c), (24, oI.c), (25, aeb.c), (17, kD.c)] [(11, [1, 6, 7, 9, 10, 12, 57, 58, 59], [1, 4, 6, 7, 9, 10]), (18, [1, 6, 7, 9, 10, 15, 97, 98], [6, 7, 10, 15]), (2000013, [], [])] [(11, jC.c), (18, jD.c)] [(3, [.freeze 320, .freeze 321, .freeze 322, .freeze 323]), (4, [.freeze 324, .freeze 325])] [(11, [640, 704, 1216, 1536, 2944]), (18, [640, 704, 1216, 1536, 3456])] 0
def Fu : Env := { Cm with nt := 158 }
theorem EH : aG Fu (aH 11 Tryz.f7) jC.c := jC.tells 3392 (fun _ => by kernel_rfl) (fun _ _ _ _ => by kernel_rfl) (fun _ _ _ _ => by kernel_rfl) fun R f v N K => by kernel_rfl
theorem EI : aG Fu (aH 18 Tryz.f7) jD.c := jD.tells 3776 (fun _ => by kernel_rfl) (fun _ _ _ _ => by kernel_rfl) (fun _ _ _ _ => by kernel_rfl) fun R f v N K => by kernel_rfl
theorem acE : aN Tryz.prog 7 gy.c := gy.tells Tryz.func7 (show ∀ p, arun Cm Tryz.f7 (gy.enc p).1 (gy.enc p).2 = _ from fun p => by kernel_rfl) (bf [aH 11 Tryz.f7, aH 18 Tryz.f7] (by kernel_rfl) ⟨lpT (by kernel_rfl) EH, ⟨lpT (by kernel_rfl) EI, trivial⟩⟩) (.cons Df (.cons kQ (.cons AY (.cons BX (.cons jR (.cons yJ (.cons GU (.cons agF (.cons ug .nil)))))))))
def WS (codes : Sq Int) (by_ : Int) : Option (Bool) := gy.val (codes, by_)
theorem aeD (codes : Sq Int) (by_ : Int) : WS codes by_ = (uX codes by_).get := gy.val_eq (fun x => (sqD dI (gd x.1 0), intA (gd x.1 1))) (fun p => by kernel_rfl) (codes, by_)
theorem adY : ∀ a b, gy.enc a = gy.enc b → a = b := linj (fun x => (sqD dI (gd x.1 0), intA (gd x.1 1))) (fun p => by kernel_rfl)
end
end Go.Proofs.YtmfiagdelnddkaaGreat.Ab
