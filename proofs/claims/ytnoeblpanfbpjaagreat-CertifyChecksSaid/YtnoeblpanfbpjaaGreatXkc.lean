/- Mirrors of code, stage 11. -/
import Derived.Test.YtnoeblpanfbpjaaGreatXkw
import Derived.Test.YtnoeblpanfbpjaaGreatXkv
namespace Go.Proofs.YtnoeblpanfbpjaaGreat.Ab
open Go
attribute [local irreducible] arun



/-! minecontrol/minecontrollaw11.CertifyChecks -/
noncomputable def law11_CertifyChecks_l6_step (u6_0 : Sq SPlace) (u6_1 : Sq SRoad) (u6_2 : Sq SFan) (u6_3 : Sq SDoor) (u6_4 u6_5 u6_6 u6_7 : Sq Int) (u6_8 : Sq SBounds) (u6_9 : Int) : DT (LR (Int) (Unit) (Unit)) :=
 .ite (decide (u6_9 < (3 : Int))) (
 .ite (decide ((0 : Int) ≤ u6_9 ∧ u6_9 < ((u6_8.n : Nat) : Int))) (
 .bind (certify_Check (SAir.mk (SMine.mk u6_0 u6_1) u6_2 u6_3) (SSetting.mk u6_4 u6_5) (u6_8.f (Int.toNat u6_9))) fun z0 =>
 .bind (ref11_Check (SAir.mk (SMine.mk u6_0 u6_1) u6_2 u6_3) (SSetting.mk u6_4 u6_5) (u6_8.f (Int.toNat u6_9))) fun z1 =>
 .ite (z0 != z1) (
 .leaf (.r ())) (
 .bind (certify_Check (SAir.mk (SMine.mk u6_0 u6_1) u6_2 u6_3) (SSetting.mk u6_6 u6_7) (u6_8.f (Int.toNat u6_9))) fun z2 =>
 .bind (ref11_Check (SAir.mk (SMine.mk u6_0 u6_1) u6_2 u6_3) (SSetting.mk u6_6 u6_7) (u6_8.f (Int.toNat u6_9))) fun z3 =>
 .ite (z2 != z3) (
 .leaf (.r ())) (
 .bind (certify_Flows (SAir.mk (SMine.mk u6_0 u6_1) u6_2 u6_3) (SSetting.mk u6_4 u6_5) (u6_8.f (Int.toNat u6_9))) fun z4 =>
 .bind (ref11_Flows (SAir.mk (SMine.mk u6_0 u6_1) u6_2 u6_3) (SSetting.mk u6_4 u6_5) (u6_8.f (Int.toNat u6_9))) fun z5 =>
 .bind (ref01_Spans z4 z5) fun z6 =>
 .ite (!z6) (
 .leaf (.r ())) (
 .leaf (.next (wr (u6_9 + (1 : Int)))))))) (
 .fail)) (
 .leaf (.l ()))
noncomputable def law11_CertifyChecks_l6_m : LpM := ⟨(Sq SPlace) × (Sq SRoad) × (Sq SFan) × (Sq SDoor) × (Sq Int) × (Sq Int) × (Sq Int) × (Sq Int) × (Sq SBounds), Int, Unit, Unit, fun p => ⟨[(6, .ptr 704 0), (7, .ptr 768 0), (10, .ptr 1728 0), (36, .own 2304 0), (37, .int .i64 (3 : Int)), (38, .int .i64 p.2)], [(704, .var [sqA 2 SPlace.enc p.1.1, sqA 10 SRoad.enc p.1.2.1, sqA 4 SFan.enc p.1.2.2.1, sqA 3 SDoor.enc p.1.2.2.2.1]), (768, .var [sqA 1 (eI .i64) p.1.2.2.2.2.1, sqA 1 (eI .i64) p.1.2.2.2.2.2.1]), (1664, rowA 0 1 3 (eI .i64) p.1.2.2.2.2.2.2.1), (1665, rowA 0 1 3 (eI .i64) p.1.2.2.2.2.2.2.2.1), (1728, .var [.own 1664 0, .own 1665 0]), (2304, rowA 0 2 25 SBounds.enc p.1.2.2.2.2.2.2.2.2)], 2496⟩, fun f v => law11_CertifyChecks_l6_step f.1 f.2.1 f.2.2.1 f.2.2.2.1 f.2.2.2.2.1 f.2.2.2.2.2.1 f.2.2.2.2.2.2.1 f.2.2.2.2.2.2.2.1 f.2.2.2.2.2.2.2.2 v, false, (.exit 0), (fun x _ => ⟨[(4, .undef)], [(704, blkS x 704), (768, blkS x 768), (1664, blkS x 1664), (1665, blkS x 1665), (1728, .var [.own 1664 0, .own 1665 0]), (2304, blkS x 2304)], 2496⟩), .ret, (fun x _ => ⟨[(4, .bool false)], [(704, blkS x 704), (768, blkS x 768), (1664, blkS x 1664), (1665, blkS x 1665), (1728, .var [.own 1664 0, .own 1665 0]), (2304, blkS x 2304)], 2496⟩), c1, c1k⟩
noncomputable def law11_CertifyChecks_l6 (u6_0 : Sq SPlace) (u6_1 : Sq SRoad) (u6_2 : Sq SFan) (u6_3 : Sq SDoor) (u6_4 u6_5 u6_6 u6_7 : Sq Int) (u6_8 : Sq SBounds) (u6_9 : Int) : Option ((Unit) ⊕ (Unit)) := law11_CertifyChecks_l6_m.val ((u6_0, u6_1, u6_2, u6_3, u6_4, u6_5, u6_6, u6_7, u6_8), u6_9)
theorem law11_CertifyChecks_l6_eq (u6_0 : Sq SPlace) (u6_1 : Sq SRoad) (u6_2 : Sq SFan) (u6_3 : Sq SDoor) (u6_4 u6_5 u6_6 u6_7 : Sq Int) (u6_8 : Sq SBounds) (u6_9 : Int) : law11_CertifyChecks_l6 u6_0 u6_1 u6_2 u6_3 u6_4 u6_5 u6_6 u6_7 u6_8 u6_9 = fixO (fun v : Int => law11_CertifyChecks_l6_step u6_0 u6_1 u6_2 u6_3 u6_4 u6_5 u6_6 u6_7 u6_8 v) u6_9 := law11_CertifyChecks_l6_m.val_eq (fun x => ((sqD SPlace.dec (cellS x 704 0), sqD SRoad.dec (cellS x 704 1), sqD SFan.dec (cellS x 704 2), sqD SDoor.dec (cellS x 704 3), sqD dI (cellS x 768 0), sqD dI (cellS x 768 1), sqB dI (blkS x 1664), sqB dI (blkS x 1665), sqB SBounds.dec (blkS x 2304)), intA (aget x.tm 38))) (fun p => by kernel_rfl) ((u6_0, u6_1, u6_2, u6_3, u6_4, u6_5, u6_6, u6_7, u6_8), u6_9)
noncomputable def law11_CertifyChecks_t (codes : Sq Int) (raw : SBounds) : DT (Bool) :=
 .bind (New codes) fun z7 =>
 .bind (Codes_Made z7) fun z8 =>
 .bind (law11_bounds (SCodes.mk z7.l_ z8.2.2.2) z8.1 z8.2.1 z8.2.2.1) fun z9 =>
 .bind (Codes_Setting (SCodes.mk z7.l_ z9.2) z8.1) fun z10 =>
 .sum (law11_CertifyChecks_l6 z8.1.Mine.Places z8.1.Mine.Roads z8.1.Fans z8.1.Doors z8.2.1.Fans z8.2.1.Doors z10.1.Fans z10.1.Doors (Sq.mk 3 (fun k0 => (SBounds.mk (Sq.mk (cond (Nat.beq k0 0) z9.1.Low.n (cond (Nat.beq (k0 - 1) 0) raw.Low.n z8.2.2.1.Pressures.n)) (fun k1 => (cond (Nat.beq k0 0) (z9.1.Low.f k1) (cond (Nat.beq (k0 - 1) 0) (raw.Low.f k1) (z8.2.2.1.Pressures.f k1))))) (Sq.mk (cond (Nat.beq k0 0) z9.1.High.n (cond (Nat.beq (k0 - 1) 0) raw.High.n z8.2.2.1.Pressures.n)) (fun k2 => (cond (Nat.beq k0 0) (z9.1.High.f k2) (cond (Nat.beq (k0 - 1) 0) (raw.High.f k2) (z8.2.2.1.Pressures.f k2)))))))) (0 : Int)) (fun _ =>
 .bind (law11_awake) fun z11 =>
 .leaf z11) (fun _ => .leaf false)
noncomputable def law11_CertifyChecks_m : FnM := flM ((Sq Int) × SBounds) (Bool) (fun p => ([sqA 1 (eI .u8) p.1, .agg (SBounds.enc p.2)], [])) (fun p => law11_CertifyChecks_t p.1 p.2) (fun r => .bool r) (fun _ => rfl)
noncomputable def law11_CertifyChecks_env : Env := envM [(8, New_m.c), (9, Codes_Made_m.c), (10, law11_bounds_m.c), (11, Codes_Setting_m.c), (12, certify_Check_m.c), (13, ref11_Check_m.c), (15, certify_Flows_m.c), (16, ref11_Flows_m.c), (14, ref01_Spans_m.c), (17, law11_awake_m.c)] [(6, [6, 7, 10, 36, 37, 38], [4])] [(6, law11_CertifyChecks_l6_m.c)] [(3, [.freeze 384, .freeze 385, .freeze 386, .freeze 387, .freeze 388, .freeze 389]), (5, [.freeze 1344, .freeze 1345])] [(6, [704, 768, 1664, 1665, 1728, 2304])] 0
noncomputable def law11_CertifyChecks_e : Env := { law11_CertifyChecks_env with nt := 76 }
theorem law11_CertifyChecks_l6_tells : LoopTells law11_CertifyChecks_e (loopOf 6 Tryz.f3) law11_CertifyChecks_l6_m.c := law11_CertifyChecks_l6_m.tells 2496 (fun _ => by kernel_rfl) (fun _ _ _ _ => by kernel_rfl) (fun _ _ _ _ => by kernel_rfl) fun R f v N K => by kernel_rfl
theorem law11_CertifyChecks_tells : Tells Tryz.prog 3 law11_CertifyChecks_m.c := law11_CertifyChecks_m.tells Tryz.func3 (show ∀ p, arun law11_CertifyChecks_env Tryz.f3 (law11_CertifyChecks_m.enc p).1 (law11_CertifyChecks_m.enc p).2 = _ from fun p => by kernel_rfl) (loopsL [loopOf 6 Tryz.f3] (by kernel_rfl) ⟨lpT (by kernel_rfl) law11_CertifyChecks_l6_tells, trivial⟩) (.cons New_tells (.cons Codes_Made_tells (.cons law11_bounds_tells (.cons Codes_Setting_tells (.cons certify_Check_tells (.cons ref11_Check_tells (.cons certify_Flows_tells (.cons ref11_Flows_tells (.cons ref01_Spans_tells (.cons law11_awake_tells .nil))))))))))
noncomputable def law11_CertifyChecks (codes : Sq Int) (raw : SBounds) : Option (Bool) := law11_CertifyChecks_m.val (codes, raw)
theorem law11_CertifyChecks_eq (codes : Sq Int) (raw : SBounds) : law11_CertifyChecks codes raw = (law11_CertifyChecks_t codes raw).get := law11_CertifyChecks_m.val_eq (fun x => (sqD dI (gd x.1 0), SBounds.dec (aggL (gd x.1 1)))) (fun p => by kernel_rfl) (codes, raw)
theorem law11_CertifyChecks_inj : ∀ a b, law11_CertifyChecks_m.enc a = law11_CertifyChecks_m.enc b → a = b := linj (fun x => (sqD dI (gd x.1 0), SBounds.dec (aggL (gd x.1 1)))) (fun p => by kernel_rfl)
end Go.Proofs.YtnoeblpanfbpjaaGreat.Ab
