/- A part of the proof, what is needed of it. -/
import Derived.Test.YtimkpfnbkclclaaGreatPh07
import Derived.Test.YtimkpfnbkclclaaGreatPh29
import Derived.Test.YtimkpfnbkclclaaGreatPh30
import Derived.Test.YtimkpfnbkclclaaGreatPh31
import Derived.Test.YtimkpfnbkclclaaGreatPh37
import Derived.Test.YtimkpfnbkclclaaGreatPh38
namespace Go.Proofs.YtimkpfnbkclclaaGreat.Ab
noncomputable section
open Go
attribute [local irreducible] arun
def FV (_u11_0 : Sq qA) (u11_1 : Sq qC) (_u11_2 : Sq SFan) (_u11_3 : Sq qD) (u11_4 : Sq qB) (u11_5 : Int) : DT (LR ((Sq qB) × Int) ((Sq qB)) (Unit)) :=
 .ite (decide (u11_5 < ((u11_1.n : Nat) : Int))) (
 .ite (decide ((0 : Int) ≤ u11_5 ∧ u11_5 < ((u11_1.n : Nat) : Int))) (
 .ite (!(u11_1.f (Int.toNat u11_5)).Closed) (
 .bind (uO) fun z0 =>
 .ite (decide ((u11_4.n + 1) * 16 ≤ 140737488355328 ∧ (u11_4.n + 1) ≤ 1099511627776)) (
 .leaf (.next ((Sq.mk (u11_4.n + 1) (fun k0 => (qB.mk (cond (Nat.blt k0 u11_4.n) (u11_4.f k0).Low z0.Low) (cond (Nat.blt k0 u11_4.n) (u11_4.f k0).High z0.High)))), (wr (u11_5 + (1 : Int)))))) (
 .fail)) (
 .ite (decide ((u11_4.n + 1) * 16 ≤ 140737488355328 ∧ (u11_4.n + 1) ≤ 1099511627776)) (
 .leaf (.next ((Sq.mk (u11_4.n + 1) (fun k1 => (qB.mk (cond (Nat.blt k1 u11_4.n) (u11_4.f k1).Low (0 : Int)) (cond (Nat.blt k1 u11_4.n) (u11_4.f k1).High (0 : Int))))), (wr (u11_5 + (1 : Int)))))) (
 .fail))) (
 .fail)) (
 .leaf (.l u11_4))
def xk : LpM := ⟨(Sq qA) × (Sq qC) × (Sq SFan) × (Sq qD), (Sq qB) × Int, (Sq qB), Unit, fun p => ⟨[(2, .ptr 0 0), (9, .own 2240 0), (10, .int .i64 p.2.2)], [(0, .var [sqA 2 qA.enc p.1.1, sqA 10 qC.enc p.1.2.1, sqA 4 SFan.enc p.1.2.2.1, sqA 3 qD.enc p.1.2.2.2]), (2240, rowA 0 2 51 qB.enc p.2.1)], 2368⟩, fun f v => FV f.1 f.2.1 f.2.2.1 f.2.2.2 v.1 v.2, true, (.exit 0), (fun x a => ⟨[(9, .own 2240 0)], [(0, blkS x 0), (2240, rowA 0 2 51 qB.enc a)], 2368⟩), .ret, (fun _ _ => ⟨[], [], 0⟩), c1, c1k⟩
def MJ (u11_0 : Sq qA) (u11_1 : Sq qC) (u11_2 : Sq SFan) (u11_3 : Sq qD) (u11_4 : Sq qB) (u11_5 : Int) : Option (((Sq qB)) ⊕ (Unit)) := xk.val ((u11_0, u11_1, u11_2, u11_3), (u11_4, u11_5))
theorem aep (u11_0 : Sq qA) (u11_1 : Sq qC) (u11_2 : Sq SFan) (u11_3 : Sq qD) (u11_4 : Sq qB) (u11_5 : Int) : MJ u11_0 u11_1 u11_2 u11_3 u11_4 u11_5 = fixO (fun v : (Sq qB) × Int => FV u11_0 u11_1 u11_2 u11_3 v.1 v.2) (u11_4, u11_5) := xk.val_eq (fun x => ((sqD qA.dec (cellS x 0 0), sqD qC.dec (cellS x 0 1), sqD SFan.dec (cellS x 0 2), sqD qD.dec (cellS x 0 3)), (sqB qB.dec (blkS x 2240), intA (aget x.tm 10)))) (fun p => by kernel_rfl) ((u11_0, u11_1, u11_2, u11_3), (u11_4, u11_5))
def Rj (a : SAir) (s : qz) : DT ((Sq qB) × Int) :=
 .bind (Gg a) fun z1 =>
 .ite (z1 != (0 : Int)) (
 .leaf ((Sq.mk 0 (fun _ => (qB.mk (0 : Int) (0 : Int)))), z1)) (
 .bind (Gi a s) fun z2 =>
 .ite (!z2) (
 .leaf ((Sq.mk 0 (fun _ => (qB.mk (0 : Int) (0 : Int)))), (21 : Int))) (
 .bind (abo a s) fun z3 =>
 .ite (z3.2 == (0 : Int)) (
 .bind (abn a s z3.1) fun z4 =>
 .leaf (z4, (0 : Int))) (
 .sum (MJ a.Mine.Places a.Mine.Roads a.Fans a.Doors (Sq.mk 0 (fun _ => (qB.mk (0 : Int) (0 : Int)))) (0 : Int)) (fun y0 =>
 .leaf (y0, (0 : Int))) (fun _ => .fail))))
def xq : FnM := nfM (SAir × qz) ((Sq qB) × Int) (fun p => ([.agg (SAir.enc p.1), .agg (qz.enc p.2)], [])) (fun p => Rj p.1 p.2) (fun r => .tup [.own 0 0, .int .i64 r.2]) (fun _ r => [rowA 0 2 51 qB.enc r.1])
def MI : Env := envM [(42, uP.c), (43, uR.c), (44, Av.c), (45, Au.c), (46, tO.c)] [(11, [2, 9, 10], [9])] [(11, xk.c)] [(8, [.freeze 1280, .freeze 1281]), (1000011, [.asrow 2240 51 2 (fun _ => qB.enc (qB.mk (0 : Int) (0 : Int)))]), (2000000, [.asrow 640 51 2 (fun _ => qB.enc (qB.mk (0 : Int) (0 : Int))), .asrow 1024 51 2 (fun _ => qB.enc (qB.mk (0 : Int) (0 : Int)))])] [(11, [0, 2240])] 0
def abt : Env := { MI with nt := 56 }
theorem NA : aQ abt (qd 11 Tryz.f13) xk.c := xk.tells 2368 (fun _ => by kernel_rfl) (fun _ _ _ _ => by kernel_rfl) (fun _ _ _ _ => by kernel_rfl) fun R f v N K => by kernel_rfl
theorem Vv : aI Tryz.prog 13 xq.c := xq.tells Tryz.func13 (show ∀ p, arun MI Tryz.f13 (xq.enc p).1 (xq.enc p).2 = _ from fun p => by kernel_rfl) (qg [qd 11 Tryz.f13] (by kernel_rfl) ⟨lpT (by kernel_rfl) NA, trivial⟩) (.cons zw (.cons zA (.cons YE (.cons YC (.cons Al .nil)))))
def XB (a : SAir) (s : qz) : Option ((Sq qB) × Int) := xq.val (a, s)
theorem agF (a : SAir) (s : qz) : XB a s = (Rj a s).get := xq.val_eq (fun x => (SAir.dec (aggL (gd x.1 0)), qz.dec (aggL (gd x.1 1)))) (fun p => by kernel_rfl) (a, s)
end
end Go.Proofs.YtimkpfnbkclclaaGreat.Ab
namespace Go.Proofs.YtimkpfnbkclclaaGreat.Ab
noncomputable section
open Go
attribute [local irreducible] arun
def Ba (u4_0 : Sq qA) (u4_1 : Sq qC) (u4_2 : Sq SFan) (u4_3 : Sq qD) (u4_4 : Sq qz) (u4_5 : Int) : DT (LR (Int) (Unit) (Unit)) :=
 .ite (decide (u4_5 < (3 : Int))) (
 .ite (decide ((0 : Int) ≤ u4_5 ∧ u4_5 < ((u4_4.n : Nat) : Int))) (
 .bind (Cc (SAir.mk (qI.mk u4_0 u4_1) u4_2 u4_3) (u4_4.f (Int.toNat u4_5))) fun z0 =>
 .bind (XB (SAir.mk (qI.mk u4_0 u4_1) u4_2 u4_3) (u4_4.f (Int.toNat u4_5))) fun z1 =>
 .ite (z0.2 != z1.2) (
 .leaf (.r ())) (
 .bind (Gd z0.1 z1.1) fun z2 =>
 .ite (!z2) (
 .leaf (.r ())) (
 .leaf (.next (wr (u4_5 + (1 : Int))))))) (
 .fail)) (
 .leaf (.l ()))
def tu : LpM := ⟨(Sq qA) × (Sq qC) × (Sq SFan) × (Sq qD) × (Sq qz), Int, Unit, Unit, fun p => ⟨[(6, .ptr 704 0), (28, .own 1408 0), (29, .int .i64 (3 : Int)), (30, .int .i64 p.2)], [(704, .var [sqA 2 qA.enc p.1.1, sqA 10 qC.enc p.1.2.1, sqA 4 SFan.enc p.1.2.2.1, sqA 3 qD.enc p.1.2.2.2.1]), (1408, rowA 0 2 25 qz.enc p.1.2.2.2.2)], 1600⟩, fun f v => Ba f.1 f.2.1 f.2.2.1 f.2.2.2.1 f.2.2.2.2 v, false, (.exit 0), (fun x _ => ⟨[(4, .undef)], [(704, blkS x 704), (1408, blkS x 1408)], 1600⟩), .ret, (fun x _ => ⟨[(4, .bool false)], [(704, blkS x 704), (1408, blkS x 1408)], 1600⟩), c1, c1k⟩
def EC (u4_0 : Sq qA) (u4_1 : Sq qC) (u4_2 : Sq SFan) (u4_3 : Sq qD) (u4_4 : Sq qz) (u4_5 : Int) : Option ((Unit) ⊕ (Unit)) := tu.val ((u4_0, u4_1, u4_2, u4_3, u4_4), u4_5)
theorem aaU (u4_0 : Sq qA) (u4_1 : Sq qC) (u4_2 : Sq SFan) (u4_3 : Sq qD) (u4_4 : Sq qz) (u4_5 : Int) : EC u4_0 u4_1 u4_2 u4_3 u4_4 u4_5 = fixO (fun v : Int => Ba u4_0 u4_1 u4_2 u4_3 u4_4 v) u4_5 := tu.val_eq (fun x => ((sqD qA.dec (cellS x 704 0), sqD qC.dec (cellS x 704 1), sqD SFan.dec (cellS x 704 2), sqD qD.dec (cellS x 704 3), sqB qz.dec (blkS x 1408)), intA (aget x.tm 30))) (fun p => by kernel_rfl) ((u4_0, u4_1, u4_2, u4_3, u4_4), u4_5)
def EZ (codes : Sq Int) (raw : qz) : DT (Bool) :=
 .bind (New codes) fun z3 =>
 .bind (F7 z3) fun z4 =>
 .bind (VK (qF.mk z3.l_ z4.2.2.2) z4.1) fun z5 =>
 .sum (EC z4.1.Mine.Places z4.1.Mine.Roads z4.1.Fans z4.1.Doors (Sq.mk 3 (fun k0 => (qz.mk (Sq.mk (cond (Nat.beq k0 0) z4.2.1.Fans.n (cond (Nat.beq (k0 - 1) 0) z5.1.Fans.n raw.Fans.n)) (fun k1 => (cond (Nat.beq k0 0) (z4.2.1.Fans.f k1) (cond (Nat.beq (k0 - 1) 0) (z5.1.Fans.f k1) (raw.Fans.f k1))))) (Sq.mk (cond (Nat.beq k0 0) z4.2.1.Doors.n (cond (Nat.beq (k0 - 1) 0) z5.1.Doors.n raw.Doors.n)) (fun k2 => (cond (Nat.beq k0 0) (z4.2.1.Doors.f k2) (cond (Nat.beq (k0 - 1) 0) (z5.1.Doors.f k2) (raw.Doors.f k2)))))))) (0 : Int)) (fun _ =>
 .bind (rD) fun z6 =>
 .leaf z6) (fun _ => .leaf false)
def qY : FnM := flM ((Sq Int) × qz) (Bool) (fun p => ([sqA 1 (eI .u8) p.1, .agg (qz.enc p.2)], [])) (fun p => EZ p.1 p.2) (fun r => .bool r) (fun _ => rfl)
def DW : Env := envM [(9, ZK.c), (10, uT.c), (11, wO.c), (12, rQ.c), (13, xq.c), (14, vC.c), (15, su.c)] [(4, [6, 28, 29, 30], [4])] [(4, tu.c)] [(3, [.freeze 384, .freeze 385, .freeze 386, .freeze 387, .freeze 388, .freeze 389])] [(4, [704, 1408])] 0
def Nq : Env := { DW with nt := 57 }
theorem GJ : aQ Nq (qd 4 Tryz.f3) tu.c := tu.tells 1600 (fun _ => by kernel_rfl) (fun _ _ _ _ => by kernel_rfl) (fun _ _ _ _ => by kernel_rfl) fun R f v N K => by kernel_rfl
theorem aaV : aI Tryz.prog 3 qY.c := qY.tells Tryz.func3 (show ∀ p, arun DW Tryz.f3 (qY.enc p).1 (qY.enc p).2 = _ from fun p => by kernel_rfl) (qg [qd 4 Tryz.f3] (by kernel_rfl) ⟨lpT (by kernel_rfl) GJ, trivial⟩) (.cons LC (.cons xZ (.cons UQ (.cons yj (.cons Vv (.cons Dk (.cons wN .nil)))))))
theorem abV : ∀ a b, qY.enc a = qY.enc b → a = b := linj (fun x => (sqD dI (gd x.1 0), qz.dec (aggL (gd x.1 1)))) (fun p => by kernel_rfl)
end
end Go.Proofs.YtimkpfnbkclclaaGreat.Ab
namespace Go.Proofs.YtimkpfnbkclclaaGreat.Ab
open Go
theorem asf {a : SAir} {s : qz} (rt : aiR a s = true) : ∃ l, XB a s = some (l, 0) ∧ Ana a s l := by
  have ok := aiU rt
  have nr := ok.m.nr
  have np := ok.m.np
  rw [agF]; unfold Rj
  rw [get_bind (ajJ a), aj7 rt, qm (show ((0 : Int) != 0) = false from rfl), get_bind (akA a s), rt, qm (b := !true) rfl, get_bind (aoG a s np)]
  by_cases c : (ai6 a s).2 = 0
  · obtain ⟨z, _⟩ := aoj c
    obtain ⟨l, el, _, l1⟩ := alD a s (ai6 a s).1
    obtain ⟨ln, lf⟩ := l1 z
    rw [qo (by rw [c]; rfl), get_bind el]
    exact ⟨l, rfl, ln, fun j hj => by rw [lf j hj]; unfold anaF; rw [if_pos c]⟩
  · obtain ⟨z, hz, y, rfl, yn, yf⟩ := pY (step := fun v : Sq qB × Int => FV a.Mine.Places a.Mine.Roads a.Fans a.Doors v.1 v.2)
      (fun v => ∃ k : Nat, v.2 = k ∧ k ≤ a.Mine.Roads.n ∧ v.1.n = k ∧ ∀ j, j < k → v.1.f j = anaF a s j) (fun v => a.Mine.Roads.n - v.2.toNat)
      (fun z => ∃ y, z = .inl y ∧ y.n = a.Mine.Roads.n ∧ ∀ j, j < a.Mine.Roads.n → y.f j = anaF a s j) (fun v hv => by
        obtain ⟨l, x⟩ := v
        obtain ⟨k, h1, hk, hl, hf⟩ := hv
        dsimp only at h1 hl hf ⊢
        subst h1
        unfold FV
        rcases Nat.lt_or_ge k a.Mine.Roads.n with hi | hi
        · have ms : a.Mine.Roads.n - (wr ((k : Int) + 1)).toNat < a.Mine.Roads.n - (k : Int).toNat := by rw [qc (by omega)]; omega
          have room : decide ((l.n + 1) * 16 ≤ 140737488355328 ∧ (l.n + 1) ≤ 1099511627776) = true := decide_eq_true ⟨by omega, by omega⟩
          have nx : ∀ S : qB, S = anaF a s k → ∃ k2 : Nat, wr ((k : Int) + 1) = k2 ∧ k2 ≤ a.Mine.Roads.n ∧ l.n + 1 = k2 ∧ ∀ j, j < k2 → qB.mk (cond (Nat.blt j l.n) (l.f j).Low S.Low) (cond (Nat.blt j l.n) (l.f j).High S.High) = anaF a s j := fun S hS => by
            refine ⟨k + 1, qc (by omega), hi, by omega, fun j hj => ?_⟩
            by_cases c : j < l.n
            · rw [ajf c]; exact hf j (by omega)
            · rw [ajl (by omega), show j = k by omega, ← hS]; rfl
          rw [qo (dlt hi), qo (dix hi), pI]
          cases ec : (a.Mine.Roads.f k).Closed with
          | true =>
            rw [qm (b := !true) rfl, qo room]
            exact ⟨_, rfl, nx ⟨0, 0⟩ (by unfold anaF; rw [if_neg c, if_pos ec]), ms⟩
          | false =>
            rw [qo (b := !false) rfl, get_bind aqm, qo room]
            exact ⟨_, rfl, nx noS (by unfold anaF; rw [if_neg c, if_neg (by rw [ec]; simp)]), ms⟩
        · obtain rfl : k = a.Mine.Roads.n := by omega
          rw [qm (dge (by omega))]
          exact ⟨_, rfl, _, rfl, hl, hf⟩)
      (⟨0, fun _ => ⟨0, 0⟩⟩, 0) ⟨0, rfl, Nat.zero_le _, rfl, fun j hj => absurd hj (Nat.not_lt_zero _)⟩
    rw [qm (by simp [c]), pV (by rw [aep]; exact hz)]
    exact ⟨y, rfl, yn, yf⟩
theorem asb {a : SAir} {s : qz} (z : airE a = 0) (rt : aiR a s = false) : XB a s = some (⟨0, fun _ => ⟨0, 0⟩⟩, 21) := by
  rw [agF]; unfold Rj
  rw [get_bind (ajJ a), z, qm (show ((0 : Int) != 0) = false from rfl), get_bind (akA a s), rt, qo (b := !false) rfl]; rfl
theorem aso {a : SAir} (z : airE a = 0) (h12 : a.Mine.Places.n ≤ 12) (h0 : 0 < a.Mine.Places.n) (t : qz) : ∃ l e k, Cc a t = some (l, e) ∧ XB a t = some (k, e) ∧ Gd l k = some true := by
  cases rt : aiR a t with
  | false => exact ⟨_, _, _, aq5 z rt, asb z rt, alH (by show 0 ≤ 1000; omega) rfl fun _ _ => rfl⟩
  | true =>
    have nr := (aiU rt).m.nr
    obtain ⟨l, el, hl⟩ := aqv rt h12 h0
    obtain ⟨k, ek, hk⟩ := asf rt
    have ln := hl.nn
    have kn := hk.nn
    exact ⟨l, 0, k, el, ek, alH (by omega) (by omega) fun j hj => by rw [hl.e j (by omega), hk.e j (by omega)]⟩
theorem ar4 (codes : Sq Int) (hb : ∀ k, 0 ≤ codes.f k ∧ codes.f k ≤ 255) (raw : qz) : (EZ codes raw).get = some true := by
  obtain ⟨c, e0, hc⟩ := aqk codes hb
  obtain ⟨a, s, x, b, e1, b0, b1, md⟩ := aos hc
  have np := md.np
  have n1 := md.n1
  obtain ⟨sh, s0, _, _, _, _, _, hE, dF, dD, _⟩ := md.e
  have hfn := hE.fn
  have hdn := hE.dn
  obtain ⟨t, b3, e3, _⟩ := anP (hc.at b0 b1) a (by omega) (by omega) (fun i hi => by have := (hE.d.f i hi).1.n1; omega)
  have z := aj7 md.right
  have key : ∀ B : Sq qz, B.n = 3 → EC a.Mine.Places a.Mine.Roads a.Fans a.Doors B 0 = some (.inl ()) := fun B hB => by
    rw [aaU]
    refine (oM (step := fun v => Ba a.Mine.Places a.Mine.Roads a.Fans a.Doors B v) (n := 3) (fun _ => none) (fun i hi => ?_) ?_ 3 0 (Nat.zero_add _)).trans ?_
    · unfold Ba
      obtain ⟨l, e, k, el, ek, es⟩ := aso z (by omega) (by omega) (B.f i)
      rw [qo (decide_eq_true (by omega)), qo (dix (by omega)), pI, qc (by omega)]
      refine (get_bind el).trans ?_
      refine (get_bind ek).trans ?_
      rw [qm (by simp), get_bind es, qm (b := !true) rfl]; rfl
    · unfold Ba
      rw [qm (decide_eq_false (by omega))]; rfl
    · rw [oL fun _ _ _ => rfl]
  unfold EZ
  rw [get_bind e0, get_bind e1]
  dsimp only
  rw [get_bind e3]
  dsimp only
  rw [pV (key _ rfl)]
  dsimp only [Sum.elim]
  rw [get_bind arF]; rfl
end Go.Proofs.YtimkpfnbkclclaaGreat.Ab
