/- A part of the proof, what is needed of it. -/
import Derived.Test.YtimkpfnbkclclaaGreatPk08
import Derived.Test.YtimkpfnbkclclaaGreatPk25
import Derived.Test.YtimkpfnbkclclaaGreatPk32
namespace Go.Proofs.YtimkpfnbkclclaaGreat.Ab
open Go
def dirV (f : qB) : Int := if f.Low > f.High then 0 else if f.Low > 0 then 1 else if f.High < 0 then -1 else 0
theorem aqp (f : qB) : Nb f = some (decide (f.Low > f.High)) := by
  rw [agb]; rfl
theorem aqs (f : qB) : Di f = some (dirV f) := by
  rw [aef]; unfold Ja dirV
  rw [get_bind (aqp f)]
  by_cases c1 : f.Low > f.High
  · rw [qo (decide_eq_true c1), if_pos c1]; rfl
  rw [qm (decide_eq_false c1), if_neg c1]
  by_cases c2 : f.Low > 0
  · rw [qo (decide_eq_true c2), if_pos c2]; rfl
  rw [qm (decide_eq_false c2), if_neg c2]
  by_cases c3 : f.High < 0
  · rw [qo (decide_eq_true c3), if_pos c3]; rfl
  · rw [qm (decide_eq_false c3), if_neg c3]; rfl
def fedV (F : Sq qB) (x : rW) : Int :=
  if ¬ (0 ≤ x.Road ∧ x.Road < F.n) then 0 else if (F.f x.Road.toNat).Low > (F.f x.Road.toNat).High then 0
  else if x.Need ≤ 0 ∨ (F.f x.Road.toNat).Low ≥ x.Need ∨ (F.f x.Road.toNat).High ≤ -x.Need then 1
  else if (F.f x.Road.toNat).Low > -x.Need ∧ (F.f x.Road.toNat).High < x.Need then -1 else 0
def NdOK (x : rW) : Prop := -1099511627776 ≤ x.Need ∧ x.Need ≤ 1099511627776
theorem aqB (f : qB) {n : Int} (n0 : -1099511627776 ≤ n) (n1 : n ≤ 1099511627776) : Tg f n = some (if f.Low > f.High then 0 else if n ≤ 0 ∨ f.Low ≥ n ∨ f.High ≤ -n then 1 else if f.Low > -n ∧ f.High < n then -1 else 0) := by
  have w : wr (0 - n) = -n := by rw [pJ (by omega) (by omega)]; omega
  rw [aft]; unfold NZ
  rw [get_bind (aqp f)]
  by_cases c3 : f.Low > f.High
  · rw [qo (decide_eq_true c3), if_pos c3]; rfl
  rw [qm (decide_eq_false c3), if_neg c3]
  by_cases c4 : n ≤ 0
  · rw [qo (decide_eq_true c4), if_pos (.inl c4)]; rfl
  rw [qm (decide_eq_false c4)]
  by_cases c5 : f.Low ≥ n
  · rw [qo (decide_eq_true c5), if_pos (.inr (.inl c5))]; rfl
  rw [qm (decide_eq_false c5), w]
  by_cases c6 : f.High ≤ -n
  · rw [qo (decide_eq_true c6), if_pos (.inr (.inr c6))]; rfl
  rw [qm (decide_eq_false c6), if_neg (show ¬ (n ≤ 0 ∨ f.Low ≥ n ∨ f.High ≤ -n) by omega)]
  by_cases c7 : f.Low > -n
  · rw [qo (decide_eq_true c7)]
    by_cases c8 : f.High < n
    · rw [qo (decide_eq_true c8), if_pos ⟨c7, c8⟩]; rfl
    · rw [qm (decide_eq_false c8), if_neg fun q => c8 q.2]; rfl
  · rw [qm (decide_eq_false c7), if_neg fun q => c7 q.1]; rfl
theorem aqN (F : Sq qB) {l : Sq rW} (ln : l.n ≤ 1000) (h : ∀ j, j < l.n → NdOK (l.f j)) : ∃ r, Jb F l = some r ∧ r.n = l.n ∧ ∀ j, j < l.n → r.f j = fedV F (l.f j) := by
  obtain ⟨z, hz, y, rfl, yn, yf⟩ := pY (step := fun v : Sq Int × Int => Jc F l v.1 v.2)
    (fun v => ∃ k : Nat, v.2 = k ∧ k ≤ l.n ∧ v.1.n = l.n ∧ ∀ j, j < k → v.1.f j = fedV F (l.f j)) (fun v => l.n - v.2.toNat)
    (fun z => ∃ y, z = .inl y ∧ y.n = l.n ∧ ∀ j, j < l.n → y.f j = fedV F (l.f j)) (fun v hv => by
      obtain ⟨o, x⟩ := v
      obtain ⟨k, h1, hk, hl, hf⟩ := hv
      dsimp only at h1 hl hf ⊢
      subst h1
      unfold Jc
      rcases Nat.lt_or_ge k l.n with hi | hi
      · obtain ⟨n0, n1⟩ := h k hi
        have dn : l.n - (wr ((k : Int) + 1)).toNat < l.n - (k : Int).toNat := by rw [qc (by omega)]; omega
        rw [qo (dlt hi), qo (dix hi), qo (dix (by omega)), pI, get_bind (aqn _ _)]
        by_cases c : 0 ≤ (l.f k).Road ∧ (l.f k).Road < F.n
        · rw [qo (decide_eq_true c), qo (decide_eq_true c), get_bind (aqB _ n0 n1), qo (dix (by omega))]
          refine ⟨_, rfl, ⟨k + 1, qc (by omega), hi, hl, fun j hj => ?_⟩, dn⟩
          dsimp only
          by_cases q : j = k
          · rw [ajw q, q]; unfold fedV; rw [if_neg (show ¬ ¬ (0 ≤ (l.f k).Road ∧ (l.f k).Road < F.n) from fun w => w c)]; rfl
          · rw [ajM q]; exact hf j (by omega)
        · rw [qm (decide_eq_false c)]
          refine ⟨_, rfl, ⟨k + 1, qc (by omega), hi, hl, fun j hj => ?_⟩, dn⟩
          dsimp only
          by_cases q : j = k
          · rw [ajw q, q]; unfold fedV; rw [if_pos (show ¬ (0 ≤ (l.f k).Road ∧ (l.f k).Road < F.n) from c)]; rfl
          · rw [ajM q]; exact hf j (by omega)
      · obtain rfl : k = l.n := by omega
        rw [qm (dge (by omega))]
        exact ⟨_, rfl, _, rfl, hl, hf⟩)
    (⟨l.n, fun _ => 0⟩, 0) ⟨0, rfl, Nat.zero_le _, rfl, fun j hj => absurd hj (Nat.not_lt_zero _)⟩
  rw [ahg]; unfold VU
  rw [qo (decide_eq_true ⟨by omega, by omega, by omega, by omega⟩), pI, pV (by rw [afs]; exact hz)]
  exact ⟨y, rfl, yn, yf⟩
def s9 : Sq qG := ⟨1, fun _ => ⟨0, 3, 0, 0, 0, 0, 0, 9⟩⟩
def m9 : Sq qE := ⟨2, fun k => ⟨cond (Nat.beq k 0) 0 0, cond (Nat.beq k 0) 0 0, ⟨cond (Nat.beq k 0) 55 70, cond (Nat.beq k 0) 70 80⟩⟩⟩
def f9 : Sq qB := ⟨1, fun _ => ⟨40, 60⟩⟩
theorem arx {x : qE} (h : x.Sensor = 0) : Tgt f9.n s9 x := by
  unfold Tgt
  rw [h]
  exact ⟨by decide, by decide, rfl, by decide, by decide⟩
theorem arQ : SnOK (s9.f 0) := by
  show SnOK ⟨0, 3, 0, 0, 0, 0, 0, 9⟩
  unfold SnOK
  decide
theorem m9_b (v : Int) : (trun f9 s9 m9 1 m9.n).b v ↔ v = 0 := by
  have a0 : atF (s9.f (m9.f 0).Sensor.toNat) (m9.f 0) 1 = ⟨55, 70⟩ := by
    have sy : Says (s9.f (m9.f 0).Sensor.toNat) (m9.f 0) 1 := ⟨arQ, by decide, by decide, by decide, by decide⟩
    unfold atF
    rw [if_pos sy]; rfl
  have a1 : atF (s9.f (m9.f 1).Sensor.toNat) (m9.f 1) 1 = ⟨70, 80⟩ := by
    have sy : Says (s9.f (m9.f 1).Sensor.toNat) (m9.f 1) 1 := ⟨arQ, by decide, by decide, by decide, by decide⟩
    unfold atF
    rw [if_pos sy]; rfl
  have t1 := aqJ (F := f9) (l := s9) (m := m9) (t := 1) (k := 0) (r := 0) (y := (⟨55, 60⟩, true)) rfl rfl (by rw [a0]; rfl) (arx rfl) rfl
  have t2 := aqJ (F := f9) (l := s9) (m := m9) (t := 1) (k := 1) (r := 0) (y := (noS, false)) rfl rfl (by rw [a1, t1]; rfl) (arx rfl) (by rw [t1]; rfl)
  show (trun f9 s9 m9 1 (1 + 1)).b v ↔ v = 0
  rw [t2, t1]
  dsimp only
  show (((False ∨ ((true = false) ∧ v = (m9.f 0).Sensor)) ∨ ((false = false) ∧ v = (m9.f 1).Sensor)) ↔ v = 0)
  have e : (m9.f 1).Sensor = 0 := rfl
  rw [e]
  simp
theorem arF : rD = some true := by
  obtain ⟨l, el, hl⟩ := aqv aqC (by decide) (by decide)
  have ln : l.n = 1 := hl.nn
  have l0 : l.f 0 = ⟨30, 30⟩ := by
    rw [hl.e 0 (by decide)]; unfold anaF
    rw [arn, if_pos rfl]; exact arA
  obtain ⟨O, B, et, ht⟩ := aqw (F := f9) (l := s9) (m := m9) (t := 1) (by decide) (by decide) fun i hi _ => by
    have hi : i < 2 := hi
    rcases (show i = 0 ∨ i = 1 by omega) with q | q <;> subst q <;> unfold MsOK <;> decide
  have On : O.n = 1 := ht.nn
  have b0 : In B 0 := (ht.i 0).2 ((m9_b 0).2 rfl)
  have bz : ∀ v, In B v → v = 0 := fun v hv => (m9_b v).1 ((ht.i v).1 hv)
  have Bn : B.n = 1 := by
    obtain ⟨j, hj, _⟩ := b0
    rcases Nat.lt_or_ge 1 B.n with c | c
    · have := ht.up 0 1 (by omega) c
      have e0 := bz _ ⟨0, by omega, rfl⟩
      have e1 := bz _ ⟨1, by omega, rfl⟩
      omega
    · omega
  have es : Gd l ⟨1, fun _ => ⟨30, 30⟩⟩ = some true := alH (by omega) ln fun j hj => by
    obtain rfl : j = 0 := by omega
    exact l0
  have eb : Gc B ⟨1, fun _ => 0⟩ = some true := aqE (by omega) Bn fun j hj => bz _ ⟨j, hj, rfl⟩
  obtain ⟨r, er, rn, rf⟩ := aqN l (l := ⟨1, fun _ => ⟨0, 31⟩⟩) (by decide) fun j _ => (⟨by decide, by decide⟩ : NdOK ⟨0, 31⟩)
  have ef : Gc r ⟨1, fun _ => -1⟩ = some true := by
    have rn : r.n = 1 := rn
    refine aqE (by omega) rn fun j hj => ?_
    obtain rfl : j = 0 := by omega
    rw [rf 0 (by decide)]
    unfold fedV
    rw [ln, show (l.f (Int.toNat (rW.mk 0 31).Road)) = ⟨30, 30⟩ from l0]
    rfl
  rw [ahq]; unfold WB
  refine (get_bind el).trans ?_
  refine (get_bind et).trans ?_
  dsimp only
  rw [qo (show ((0 : Int) == 0) = true from rfl), get_bind es, qo rfl, qo (by rw [On]; rfl), get_bind eb, qo rfl, qo (decide_eq_true ⟨by omega, by omega⟩), get_bind (aqs _), l0, qo (by rfl)]
  refine (get_bind er).trans ?_
  rw [get_bind ef]; rfl
end Go.Proofs.YtimkpfnbkclclaaGreat.Ab
namespace Go.Proofs.YtimkpfnbkclclaaGreat.Ab
noncomputable section
open Go
attribute [local irreducible] arun
def Qz (kind : Int) : DT (Bool) :=
 .leaf (decide (kind ≥ (4 : Int)))
def vK : FnM := flM (Int) (Bool) (fun p => ([.int .i64 p], [])) (fun p => Qz p) (fun r => .bool r) (fun _ => rfl)
def Yr : Env := envM [] [] [] [] [] 0
theorem JE : aI Tryz.prog 84 vK.c := vK.tells Tryz.func84 (show ∀ p, arun Yr Tryz.f84 (vK.enc p).1 (vK.enc p).2 = _ from fun p => by kernel_rfl) p8 .nil
def Nv (kind : Int) : Option (Bool) := vK.val kind
theorem agy (kind : Int) : Nv kind = (Qz kind).get := vK.val_eq (fun x => intA (gd x.1 0)) (fun p => by kernel_rfl) kind
end
end Go.Proofs.YtimkpfnbkclclaaGreat.Ab
namespace Go.Proofs.YtimkpfnbkclclaaGreat.Ab
noncomputable section
open Go
attribute [local irreducible] arun
def I5 (u3_1 : Sq Int) (_u3_3 : Sq qA) (u3_4 : Sq qC) (_u3_5 : Sq SFan) (_u3_6 : Sq qD) (u3_0 u3_2 : Int) (u3_7 : Sq rW) : DT (LR (Int × Int × (Sq rW)) (Int × (Sq rW)) (Unit)) :=
 .ite (decide (u3_0 > (0 : Int))) (
 .bind (qJ (qF.mk u3_1 u3_2) (wr (((u3_4.n : Nat) : Int) + (1 : Int)))) fun z0 =>
 .bind (qQ (qF.mk u3_1 z0.2) (-2 : Int) (40 : Int)) fun z1 =>
 .ite (decide ((u3_7.n + 1) * 16 ≤ 140737488355328 ∧ (u3_7.n + 1) ≤ 1099511627776)) (
 .leaf (.next ((wr (u3_0 - (1 : Int))), z1.2, (Sq.mk (u3_7.n + 1) (fun k0 => (rW.mk (cond (Nat.blt k0 u3_7.n) (u3_7.f k0).Road z0.1) (cond (Nat.blt k0 u3_7.n) (u3_7.f k0).Need z1.1))))))) (
 .fail)) (
 .leaf (.l (u3_2, u3_7)))
def AQ : LpM := ⟨(Sq Int) × (Sq qA) × (Sq qC) × (Sq SFan) × (Sq qD), Int × Int × (Sq rW), Int × (Sq rW), Unit, fun p => ⟨[(0, .ptr 0 0), (3, .ptr 1 0), (5, .own 129 0), (6, .int .i64 p.2.1)], [(0, .var [sqA 1 (eI .u8) p.1.1, .int .i64 p.2.2.1]), (1, .var [sqA 2 qA.enc p.1.2.1, sqA 10 qC.enc p.1.2.2.1, sqA 4 SFan.enc p.1.2.2.2.1, sqA 3 qD.enc p.1.2.2.2.2]), (129, rowA 0 2 54 rW.enc p.2.2.2)], 385⟩, fun f v => I5 f.1 f.2.1 f.2.2.1 f.2.2.2.1 f.2.2.2.2 v.1 v.2.1 v.2.2, true, (.exit 0), (fun x a => ⟨[(5, .own 129 0)], [(0, .var [cellS x 0 0, .int .i64 a.1]), (1, blkS x 1), (129, rowA 0 2 54 rW.enc a.2)], 385⟩), .ret, (fun _ _ => ⟨[], [], 0⟩), c1, c1k⟩
def SY (u3_1 : Sq Int) (u3_3 : Sq qA) (u3_4 : Sq qC) (u3_5 : Sq SFan) (u3_6 : Sq qD) (u3_0 u3_2 : Int) (u3_7 : Sq rW) : Option ((Int × (Sq rW)) ⊕ (Unit)) := AQ.val ((u3_1, u3_3, u3_4, u3_5, u3_6), (u3_0, u3_2, u3_7))
theorem afm (u3_1 : Sq Int) (u3_3 : Sq qA) (u3_4 : Sq qC) (u3_5 : Sq SFan) (u3_6 : Sq qD) (u3_0 u3_2 : Int) (u3_7 : Sq rW) : SY u3_1 u3_3 u3_4 u3_5 u3_6 u3_0 u3_2 u3_7 = fixO (fun v : Int × Int × (Sq rW) => I5 u3_1 u3_3 u3_4 u3_5 u3_6 v.1 v.2.1 v.2.2) (u3_0, u3_2, u3_7) := AQ.val_eq (fun x => ((sqD dI (cellS x 0 0), sqD qA.dec (cellS x 1 0), sqD qC.dec (cellS x 1 1), sqD SFan.dec (cellS x 1 2), sqD qD.dec (cellS x 1 3)), (intA (aget x.tm 6), intA (cellS x 0 1), sqB rW.dec (blkS x 129)))) (fun p => by kernel_rfl) ((u3_1, u3_3, u3_4, u3_5, u3_6), (u3_0, u3_2, u3_7))
def VH (c : qF) (a : SAir) : DT ((Sq rW) × Int) :=
 .bind (qJ c (4 : Int)) fun z2 =>
 .sum (SY c.l_ a.Mine.Places a.Mine.Roads a.Fans a.Doors z2.1 z2.2 (Sq.mk 0 (fun _ => (rW.mk (0 : Int) (0 : Int))))) (fun y0 =>
 .leaf (y0.2, y0.1)) (fun _ => .fail)
def x9 : FnM := nfM (qF × SAir) ((Sq rW) × Int) (fun p => ([.ptr 0 0, .agg (SAir.enc p.2)], [.var (qF.enc p.1)])) (fun p => VH p.1 p.2) (fun _ => .own 1 0) (fun ins r => [.var [ql ins 0 0, .int .i64 r.2], rowA 0 2 54 rW.enc r.1])
def Pp : Env := envM [(28, qX.c), (32, tq.c)] [(3, [0, 3, 5, 6], [5])] [(3, AQ.c)] [(1000003, [.asrow 129 54 2 (fun _ => rW.enc (rW.mk (0 : Int) (0 : Int)))])] [(3, [0, 1, 129])] 1
def acY : Env := { Pp with nt := 27 }
theorem RD : aQ acY (qd 3 Tryz.f29) AQ.c := AQ.tells 385 (fun _ => by kernel_rfl) (fun _ _ _ _ => by kernel_rfl) (fun _ _ _ _ => by kernel_rfl) fun R f v N K => by kernel_rfl
theorem Ls : aI Tryz.prog 29 x9.c := x9.tells Tryz.func29 (show ∀ p, arun Pp Tryz.f29 (x9.enc p).1 (x9.enc p).2 = _ from fun p => by kernel_rfl) (qg [qd 3 Tryz.f29] (by kernel_rfl) ⟨lpT (by kernel_rfl) RD, trivial⟩) (.cons qW (.cons uW .nil))
def UN (c : qF) (a : SAir) : Option ((Sq rW) × Int) := x9.val (c, a)
theorem ahd (c : qF) (a : SAir) : UN c a = (VH c a).get := x9.val_eq (fun x => (qF.dec (varL (dB x.2 0)), SAir.dec (aggL (gd x.1 1)))) (fun p => by kernel_rfl) (c, a)
def Ta (c : qF) (kind address target : Int) : DT (qG × Int) :=
 .bind (qQ c (1 : Int) (200 : Int)) fun z0 =>
 .bind (Nv kind) fun z1 =>
 .ite (!z1) (
 .bind (qQ (qF.mk c.l_ z0.2) (-50 : Int) (20 : Int)) fun z2 =>
 .bind (qQ (qF.mk c.l_ z2.2) (300 : Int) (2000 : Int)) fun z3 =>
 .bind (qJ (qF.mk c.l_ z3.2) (6 : Int)) fun z4 =>
 .bind (qJ (qF.mk c.l_ z4.2) (700 : Int)) fun z5 =>
 .leaf ((qG.mk address kind target z2.1 z3.1 z4.1 z5.1 z0.1), z5.2)) (
 .leaf ((qG.mk address kind target (0 : Int) (1000 : Int) (0 : Int) (0 : Int) z0.1), z0.2))
def yL : FnM := nfM (qF × Int × Int × Int) (qG × Int) (fun p => ([.ptr 0 0, .int .i64 p.2.1, .int .i64 p.2.2.1, .int .i64 p.2.2.2], [.var (qF.enc p.1)])) (fun p => Ta p.1 p.2.1 p.2.2.1 p.2.2.2) (fun r => .agg (qG.enc r.1)) (fun ins r => [.var [ql ins 0 0, .int .i64 r.2]])
def ZJ : Env := envM [(32, tq.c), (84, vK.c), (28, qX.c)] [] [] [] [] 1
theorem VJ : aI Tryz.prog 50 yL.c := yL.tells Tryz.func50 (show ∀ p, arun ZJ Tryz.f50 (yL.enc p).1 (yL.enc p).2 = _ from fun p => by kernel_rfl) p8 (.cons uW (.cons JE (.cons qW .nil)))
def YR (c : qF) (kind address target : Int) : Option (qG × Int) := yL.val (c, kind, address, target)
theorem agK (c : qF) (kind address target : Int) : YR c kind address target = (Ta c kind address target).get := yL.val_eq (fun x => (qF.dec (varL (dB x.2 0)), intA (gd x.1 1), intA (gd x.1 2), intA (gd x.1 3))) (fun p => by kernel_rfl) (c, kind, address, target)
def GX (u6_0 : Sq Int) (u6_1 : Bool) (u6_3 : Sq Int) (u6_2 u6_4 : Int) (u6_5 : Sq qG) : DT (LR (Int × Int × (Sq qG)) (Int × (Sq qG)) (Unit)) :=
 .ite (decide (u6_2 > (0 : Int))) (
 .bind (qJ (qF.mk u6_3 u6_4) ((u6_0.n : Nat) : Int)) fun z0 =>
 .bind (YR (qF.mk u6_3 z0.2) (3 : Int) ((u6_5.n : Nat) : Int) z0.1) fun z1 =>
 .ite (!u6_1) (
 .bind (ze (qF.mk u6_3 z1.2) (5 : Int)) fun z2 =>
 .ite z2.1 (
 .bind (qQ (qF.mk u6_3 z2.2) (1 : Int) (6 : Int)) fun z3 =>
 .ite (decide ((u6_5.n + 1) * 64 ≤ 140737488355328 ∧ (u6_5.n + 1) ≤ 1099511627776)) (
 .leaf (.next ((wr (u6_2 - (1 : Int))), z3.2, (Sq.mk (u6_5.n + 1) (fun k0 => (qG.mk (cond (Nat.blt k0 u6_5.n) (u6_5.f k0).Address z1.1.Address) (cond (Nat.blt k0 u6_5.n) (u6_5.f k0).Kind z3.1) (cond (Nat.blt k0 u6_5.n) (u6_5.f k0).Target z1.1.Target) (cond (Nat.blt k0 u6_5.n) (u6_5.f k0).Offset z1.1.Offset) (cond (Nat.blt k0 u6_5.n) (u6_5.f k0).Scale z1.1.Scale) (cond (Nat.blt k0 u6_5.n) (u6_5.f k0).Error z1.1.Error) (cond (Nat.blt k0 u6_5.n) (u6_5.f k0).Drift z1.1.Drift) (cond (Nat.blt k0 u6_5.n) (u6_5.f k0).Life z1.1.Life))))))) (
 .fail)) (
 .ite (decide ((u6_5.n + 1) * 64 ≤ 140737488355328 ∧ (u6_5.n + 1) ≤ 1099511627776)) (
 .leaf (.next ((wr (u6_2 - (1 : Int))), z2.2, (Sq.mk (u6_5.n + 1) (fun k1 => (qG.mk (cond (Nat.blt k1 u6_5.n) (u6_5.f k1).Address z1.1.Address) (cond (Nat.blt k1 u6_5.n) (u6_5.f k1).Kind z1.1.Kind) (cond (Nat.blt k1 u6_5.n) (u6_5.f k1).Target z1.1.Target) (cond (Nat.blt k1 u6_5.n) (u6_5.f k1).Offset z1.1.Offset) (cond (Nat.blt k1 u6_5.n) (u6_5.f k1).Scale z1.1.Scale) (cond (Nat.blt k1 u6_5.n) (u6_5.f k1).Error z1.1.Error) (cond (Nat.blt k1 u6_5.n) (u6_5.f k1).Drift z1.1.Drift) (cond (Nat.blt k1 u6_5.n) (u6_5.f k1).Life z1.1.Life))))))) (
 .fail))) (
 .ite (decide ((u6_5.n + 1) * 64 ≤ 140737488355328 ∧ (u6_5.n + 1) ≤ 1099511627776)) (
 .leaf (.next ((wr (u6_2 - (1 : Int))), z1.2, (Sq.mk (u6_5.n + 1) (fun k2 => (qG.mk (cond (Nat.blt k2 u6_5.n) (u6_5.f k2).Address z1.1.Address) (cond (Nat.blt k2 u6_5.n) (u6_5.f k2).Kind z1.1.Kind) (cond (Nat.blt k2 u6_5.n) (u6_5.f k2).Target z1.1.Target) (cond (Nat.blt k2 u6_5.n) (u6_5.f k2).Offset z1.1.Offset) (cond (Nat.blt k2 u6_5.n) (u6_5.f k2).Scale z1.1.Scale) (cond (Nat.blt k2 u6_5.n) (u6_5.f k2).Error z1.1.Error) (cond (Nat.blt k2 u6_5.n) (u6_5.f k2).Drift z1.1.Drift) (cond (Nat.blt k2 u6_5.n) (u6_5.f k2).Life z1.1.Life))))))) (
 .fail))) (
 .leaf (.l (u6_4, u6_5)))
def yA : LpM := ⟨(Sq Int) × Bool × (Sq Int), Int × Int × (Sq qG), Int × (Sq qG), Unit, fun p => ⟨[(0, .ptr 0 0), (1, sqA 1 (eI .i64) p.1.1), (2, .bool p.1.2.1), (8, .own 129 0), (9, .own 193 0), (10, .int .i64 p.2.1)], [(0, .var [sqA 1 (eI .u8) p.1.2.2, .int .i64 p.2.2.1]), (129, rowA 0 8 75 qG.enc p.2.2.2), (193, .nilrow 0)], 897⟩, fun f v => GX f.1 f.2.1 f.2.2 v.1 v.2.1 v.2.2, true, (.exit 0), (fun x a => ⟨[(0, .ptr 0 0), (1, aget x.tm 1), (2, aget x.tm 2), (8, .own 129 0), (9, .own 193 0)], [(0, .var [cellS x 0 0, .int .i64 a.1]), (129, rowA 0 8 75 qG.enc a.2), (193, .nilrow 0)], 897⟩), .ret, (fun _ _ => ⟨[], [], 0⟩), c1, c1k⟩
def Ot (u6_0 : Sq Int) (u6_1 : Bool) (u6_3 : Sq Int) (u6_2 u6_4 : Int) (u6_5 : Sq qG) : Option ((Int × (Sq qG)) ⊕ (Unit)) := yA.val ((u6_0, u6_1, u6_3), (u6_2, u6_4, u6_5))
theorem aeJ (u6_0 : Sq Int) (u6_1 : Bool) (u6_3 : Sq Int) (u6_2 u6_4 : Int) (u6_5 : Sq qG) : Ot u6_0 u6_1 u6_3 u6_2 u6_4 u6_5 = fixO (fun v : Int × Int × (Sq qG) => GX u6_0 u6_1 u6_3 v.1 v.2.1 v.2.2) (u6_2, u6_4, u6_5) := yA.val_eq (fun x => ((sqD dI (aget x.tm 1), pU (aget x.tm 2), sqD dI (cellS x 0 0)), (intA (aget x.tm 10), intA (cellS x 0 1), sqB qG.dec (blkS x 129)))) (fun p => by kernel_rfl) ((u6_0, u6_1, u6_3), (u6_2, u6_4, u6_5))
def FU (u13_0 : Sq Int) (u13_1 : Bool) (u13_3 : Sq Int) (u13_5 : Sq qG) (u13_2 u13_4 : Int) (u13_6 : Sq qE) : DT (LR (Int × Int × (Sq qE)) (Int × (Sq qE)) (Unit)) :=
 .ite (decide (u13_2 > (0 : Int))) (
 .ite (decide (((u13_5.n : Nat) : Int) > (0 : Int))) (
 .bind (qJ (qF.mk u13_3 u13_4) ((u13_5.n : Nat) : Int)) fun z4 =>
 .ite (decide ((0 : Int) ≤ z4.1 ∧ z4.1 < ((u13_5.n : Nat) : Int))) (
 .ite (decide ((0 : Int) ≤ (u13_5.f (Int.toNat z4.1)).Target ∧ (u13_5.f (Int.toNat z4.1)).Target < ((u13_0.n : Nat) : Int))) (
 .bind (qJ (qF.mk u13_3 z4.2) (30 : Int)) fun z5 =>
 .bind (qJ (qF.mk u13_3 z5.2) (9 : Int)) fun z6 =>
 .bind (qJ (qF.mk u13_3 z6.2) (9 : Int)) fun z7 =>
 .ite (!u13_1) (
 .bind (ze (qF.mk u13_3 z7.2) (3 : Int)) fun z8 =>
 .ite z8.1 (
 .bind (qQ (qF.mk u13_3 z8.2) (5 : Int) (40 : Int)) fun z9 =>
 .bind (qQ (qF.mk u13_3 z9.2) (30 : Int) (60 : Int)) fun z10 =>
 .ite (!u13_1) (
 .bind (ze (qF.mk u13_3 z10.2) (9 : Int)) fun z11 =>
 .ite z11.1 (
 .bind (qQ (qF.mk u13_3 z11.2) (-2 : Int) (6 : Int)) fun z12 =>
 .ite (decide ((u13_6.n + 1) * 32 ≤ 140737488355328 ∧ (u13_6.n + 1) ≤ 1099511627776)) (
 .leaf (.next ((wr (u13_2 - (1 : Int))), z12.2, (Sq.mk (u13_6.n + 1) (fun k3 => (qE.mk (cond (Nat.blt k3 u13_6.n) (u13_6.f k3).Sensor z12.1) (cond (Nat.blt k3 u13_6.n) (u13_6.f k3).Time z5.1) (qB.mk (cond (Nat.blt k3 u13_6.n) (u13_6.f k3).Span.Low (wr ((wr ((u13_0.f (Int.toNat (u13_5.f (Int.toNat z4.1)).Target)) - z6.1)) + z9.1))) (cond (Nat.blt k3 u13_6.n) (u13_6.f k3).Span.High (wr ((wr ((u13_0.f (Int.toNat (u13_5.f (Int.toNat z4.1)).Target)) + z7.1)) + z10.1)))))))))) (
 .fail)) (
 .ite (decide ((u13_6.n + 1) * 32 ≤ 140737488355328 ∧ (u13_6.n + 1) ≤ 1099511627776)) (
 .leaf (.next ((wr (u13_2 - (1 : Int))), z11.2, (Sq.mk (u13_6.n + 1) (fun k4 => (qE.mk (cond (Nat.blt k4 u13_6.n) (u13_6.f k4).Sensor z4.1) (cond (Nat.blt k4 u13_6.n) (u13_6.f k4).Time z5.1) (qB.mk (cond (Nat.blt k4 u13_6.n) (u13_6.f k4).Span.Low (wr ((wr ((u13_0.f (Int.toNat (u13_5.f (Int.toNat z4.1)).Target)) - z6.1)) + z9.1))) (cond (Nat.blt k4 u13_6.n) (u13_6.f k4).Span.High (wr ((wr ((u13_0.f (Int.toNat (u13_5.f (Int.toNat z4.1)).Target)) + z7.1)) + z10.1)))))))))) (
 .fail))) (
 .ite (decide ((u13_6.n + 1) * 32 ≤ 140737488355328 ∧ (u13_6.n + 1) ≤ 1099511627776)) (
 .leaf (.next ((wr (u13_2 - (1 : Int))), z10.2, (Sq.mk (u13_6.n + 1) (fun k5 => (qE.mk (cond (Nat.blt k5 u13_6.n) (u13_6.f k5).Sensor z4.1) (cond (Nat.blt k5 u13_6.n) (u13_6.f k5).Time z5.1) (qB.mk (cond (Nat.blt k5 u13_6.n) (u13_6.f k5).Span.Low (wr ((wr ((u13_0.f (Int.toNat (u13_5.f (Int.toNat z4.1)).Target)) - z6.1)) + z9.1))) (cond (Nat.blt k5 u13_6.n) (u13_6.f k5).Span.High (wr ((wr ((u13_0.f (Int.toNat (u13_5.f (Int.toNat z4.1)).Target)) + z7.1)) + z10.1)))))))))) (
 .fail))) (
 .ite (!u13_1) (
 .bind (ze (qF.mk u13_3 z8.2) (9 : Int)) fun z13 =>
 .ite z13.1 (
 .bind (qQ (qF.mk u13_3 z13.2) (-2 : Int) (6 : Int)) fun z14 =>
 .ite (decide ((u13_6.n + 1) * 32 ≤ 140737488355328 ∧ (u13_6.n + 1) ≤ 1099511627776)) (
 .leaf (.next ((wr (u13_2 - (1 : Int))), z14.2, (Sq.mk (u13_6.n + 1) (fun k6 => (qE.mk (cond (Nat.blt k6 u13_6.n) (u13_6.f k6).Sensor z14.1) (cond (Nat.blt k6 u13_6.n) (u13_6.f k6).Time z5.1) (qB.mk (cond (Nat.blt k6 u13_6.n) (u13_6.f k6).Span.Low (wr ((u13_0.f (Int.toNat (u13_5.f (Int.toNat z4.1)).Target)) - z6.1))) (cond (Nat.blt k6 u13_6.n) (u13_6.f k6).Span.High (wr ((u13_0.f (Int.toNat (u13_5.f (Int.toNat z4.1)).Target)) + z7.1)))))))))) (
 .fail)) (
 .ite (decide ((u13_6.n + 1) * 32 ≤ 140737488355328 ∧ (u13_6.n + 1) ≤ 1099511627776)) (
 .leaf (.next ((wr (u13_2 - (1 : Int))), z13.2, (Sq.mk (u13_6.n + 1) (fun k7 => (qE.mk (cond (Nat.blt k7 u13_6.n) (u13_6.f k7).Sensor z4.1) (cond (Nat.blt k7 u13_6.n) (u13_6.f k7).Time z5.1) (qB.mk (cond (Nat.blt k7 u13_6.n) (u13_6.f k7).Span.Low (wr ((u13_0.f (Int.toNat (u13_5.f (Int.toNat z4.1)).Target)) - z6.1))) (cond (Nat.blt k7 u13_6.n) (u13_6.f k7).Span.High (wr ((u13_0.f (Int.toNat (u13_5.f (Int.toNat z4.1)).Target)) + z7.1)))))))))) (
 .fail))) (
 .ite (decide ((u13_6.n + 1) * 32 ≤ 140737488355328 ∧ (u13_6.n + 1) ≤ 1099511627776)) (
 .leaf (.next ((wr (u13_2 - (1 : Int))), z8.2, (Sq.mk (u13_6.n + 1) (fun k8 => (qE.mk (cond (Nat.blt k8 u13_6.n) (u13_6.f k8).Sensor z4.1) (cond (Nat.blt k8 u13_6.n) (u13_6.f k8).Time z5.1) (qB.mk (cond (Nat.blt k8 u13_6.n) (u13_6.f k8).Span.Low (wr ((u13_0.f (Int.toNat (u13_5.f (Int.toNat z4.1)).Target)) - z6.1))) (cond (Nat.blt k8 u13_6.n) (u13_6.f k8).Span.High (wr ((u13_0.f (Int.toNat (u13_5.f (Int.toNat z4.1)).Target)) + z7.1)))))))))) (
 .fail)))) (
 .ite (!u13_1) (
 .bind (ze (qF.mk u13_3 z7.2) (9 : Int)) fun z15 =>
 .ite z15.1 (
 .bind (qQ (qF.mk u13_3 z15.2) (-2 : Int) (6 : Int)) fun z16 =>
 .ite (decide ((u13_6.n + 1) * 32 ≤ 140737488355328 ∧ (u13_6.n + 1) ≤ 1099511627776)) (
 .leaf (.next ((wr (u13_2 - (1 : Int))), z16.2, (Sq.mk (u13_6.n + 1) (fun k9 => (qE.mk (cond (Nat.blt k9 u13_6.n) (u13_6.f k9).Sensor z16.1) (cond (Nat.blt k9 u13_6.n) (u13_6.f k9).Time z5.1) (qB.mk (cond (Nat.blt k9 u13_6.n) (u13_6.f k9).Span.Low (wr ((u13_0.f (Int.toNat (u13_5.f (Int.toNat z4.1)).Target)) - z6.1))) (cond (Nat.blt k9 u13_6.n) (u13_6.f k9).Span.High (wr ((u13_0.f (Int.toNat (u13_5.f (Int.toNat z4.1)).Target)) + z7.1)))))))))) (
 .fail)) (
 .ite (decide ((u13_6.n + 1) * 32 ≤ 140737488355328 ∧ (u13_6.n + 1) ≤ 1099511627776)) (
 .leaf (.next ((wr (u13_2 - (1 : Int))), z15.2, (Sq.mk (u13_6.n + 1) (fun k10 => (qE.mk (cond (Nat.blt k10 u13_6.n) (u13_6.f k10).Sensor z4.1) (cond (Nat.blt k10 u13_6.n) (u13_6.f k10).Time z5.1) (qB.mk (cond (Nat.blt k10 u13_6.n) (u13_6.f k10).Span.Low (wr ((u13_0.f (Int.toNat (u13_5.f (Int.toNat z4.1)).Target)) - z6.1))) (cond (Nat.blt k10 u13_6.n) (u13_6.f k10).Span.High (wr ((u13_0.f (Int.toNat (u13_5.f (Int.toNat z4.1)).Target)) + z7.1)))))))))) (
 .fail))) (
 .ite (decide ((u13_6.n + 1) * 32 ≤ 140737488355328 ∧ (u13_6.n + 1) ≤ 1099511627776)) (
 .leaf (.next ((wr (u13_2 - (1 : Int))), z7.2, (Sq.mk (u13_6.n + 1) (fun k11 => (qE.mk (cond (Nat.blt k11 u13_6.n) (u13_6.f k11).Sensor z4.1) (cond (Nat.blt k11 u13_6.n) (u13_6.f k11).Time z5.1) (qB.mk (cond (Nat.blt k11 u13_6.n) (u13_6.f k11).Span.Low (wr ((u13_0.f (Int.toNat (u13_5.f (Int.toNat z4.1)).Target)) - z6.1))) (cond (Nat.blt k11 u13_6.n) (u13_6.f k11).Span.High (wr ((u13_0.f (Int.toNat (u13_5.f (Int.toNat z4.1)).Target)) + z7.1)))))))))) (
 .fail)))) (
 .fail)) (
 .fail)) (
 .leaf (.l (u13_4, u13_6)))) (
 .leaf (.l (u13_4, u13_6)))
def wZ : LpM := ⟨(Sq Int) × Bool × (Sq Int) × (Sq qG), Int × Int × (Sq qE), Int × (Sq qE), Unit, fun p => ⟨[(0, .ptr 0 0), (1, sqA 1 (eI .i64) p.1.1), (2, .bool p.1.2.1), (8, .own 129 0), (9, .own 193 0), (12, .int .i64 p.2.1)], [(0, .var [sqA 1 (eI .u8) p.1.2.2.1, .int .i64 p.2.2.1]), (129, rowA 0 8 75 qG.enc p.1.2.2.2), (193, rowA 0 4 63 qE.enc p.2.2.2)], 1089⟩, fun f v => FU f.1 f.2.1 f.2.2.1 f.2.2.2 v.1 v.2.1 v.2.2, true, (.exit 2), (fun x a => ⟨[(8, .own 129 0), (9, .own 193 0)], [(0, .var [cellS x 0 0, .int .i64 a.1]), (129, blkS x 129), (193, rowA 0 4 63 qE.enc a.2)], 1089⟩), .ret, (fun _ _ => ⟨[], [], 0⟩), c1, c1k⟩
def Ms (u13_0 : Sq Int) (u13_1 : Bool) (u13_3 : Sq Int) (u13_5 : Sq qG) (u13_2 u13_4 : Int) (u13_6 : Sq qE) : Option ((Int × (Sq qE)) ⊕ (Unit)) := wZ.val ((u13_0, u13_1, u13_3, u13_5), (u13_2, u13_4, u13_6))
theorem aeo (u13_0 : Sq Int) (u13_1 : Bool) (u13_3 : Sq Int) (u13_5 : Sq qG) (u13_2 u13_4 : Int) (u13_6 : Sq qE) : Ms u13_0 u13_1 u13_3 u13_5 u13_2 u13_4 u13_6 = fixO (fun v : Int × Int × (Sq qE) => FU u13_0 u13_1 u13_3 u13_5 v.1 v.2.1 v.2.2) (u13_2, u13_4, u13_6) := wZ.val_eq (fun x => ((sqD dI (aget x.tm 1), pU (aget x.tm 2), sqD dI (cellS x 0 0), sqB qG.dec (blkS x 129)), (intA (aget x.tm 12), intA (cellS x 0 1), sqB qE.dec (blkS x 193)))) (fun p => by kernel_rfl) ((u13_0, u13_1, u13_3, u13_5), (u13_2, u13_4, u13_6))
def Qm (c : qF) (flows : Sq Int) (right : Bool) : DT ((Sq qG) × (Sq qE) × Int) :=
 .ite (((flows.n : Nat) : Int) == (0 : Int)) (
 .leaf ((Sq.mk 0 (fun _ => (qG.mk (0 : Int) (0 : Int) (0 : Int) (0 : Int) (0 : Int) (0 : Int) (0 : Int) (0 : Int)))), (Sq.mk 0 (fun _ => (qE.mk (0 : Int) (0 : Int) (qB.mk (0 : Int) (0 : Int))))), c.at_)) (
 .bind (qJ c (4 : Int)) fun z17 =>
 .sum (Ot flows right c.l_ z17.1 z17.2 (Sq.mk 0 (fun _ => (qG.mk (0 : Int) (0 : Int) (0 : Int) (0 : Int) (0 : Int) (0 : Int) (0 : Int) (0 : Int))))) (fun y0 =>
 .bind (qJ (qF.mk c.l_ y0.1) (5 : Int)) fun z18 =>
 .sum (Ms flows right c.l_ y0.2 z18.1 z18.2 (Sq.mk 0 (fun _ => (qE.mk (0 : Int) (0 : Int) (qB.mk (0 : Int) (0 : Int)))))) (fun y1 =>
 .leaf (y0.2, y1.2, y1.1)) (fun _ => .fail)) (fun _ => .fail))
def sG : FnM := nfM (qF × (Sq Int) × Bool) ((Sq qG) × (Sq qE) × Int) (fun p => ([.ptr 0 0, sqA 1 (eI .i64) p.2.1, .bool p.2.2], [.var (qF.enc p.1)])) (fun p => Qm p.1 p.2.1 p.2.2) (fun _ => .tup [.own 1 0, .own 2 0]) (fun ins r => [.var [ql ins 0 0, .int .i64 r.2.2], rowA 0 8 75 qG.enc r.1, rowA 0 4 63 qE.enc r.2.1])
def Mr : Env := envM [(28, qX.c), (50, yL.c), (31, yK.c), (32, tq.c)] [(6, [0, 1, 2, 8, 9, 10], [0, 1, 2, 8, 9]), (13, [0, 1, 2, 8, 9, 12], [8, 9])] [(6, yA.c), (13, wZ.c)] [(1000006, [.asrow 129 75 8 (fun _ => qG.enc (qG.mk (0 : Int) (0 : Int) (0 : Int) (0 : Int) (0 : Int) (0 : Int) (0 : Int) (0 : Int)))]), (1000013, [.asrow 193 63 4 (fun _ => qE.enc (qE.mk (0 : Int) (0 : Int) (qB.mk (0 : Int) (0 : Int))))]), (2000000, [.asrow 129 75 8 (fun _ => qG.enc (qG.mk (0 : Int) (0 : Int) (0 : Int) (0 : Int) (0 : Int) (0 : Int) (0 : Int) (0 : Int))), .asrow 193 63 4 (fun _ => qE.enc (qE.mk (0 : Int) (0 : Int) (qB.mk (0 : Int) (0 : Int))))])] [(6, [0, 129, 193]), (13, [0, 129, 193])] 1
def Ql : Env := { Mr with nt := 121 }
theorem O9 : aQ Ql (qd 6 Tryz.f23) yA.c := yA.tells 897 (fun _ => by kernel_rfl) (fun _ _ _ _ => by kernel_rfl) (fun _ _ _ _ => by kernel_rfl) fun R f v N K => by kernel_rfl
theorem Nt : aQ Ql (qd 13 Tryz.f23) wZ.c := wZ.tells 1089 (fun _ => by kernel_rfl) (fun _ _ _ _ => by kernel_rfl) (fun _ _ _ _ => by kernel_rfl) fun R f v N K => by kernel_rfl
theorem Ep : aI Tryz.prog 23 sG.c := sG.tells Tryz.func23 (show ∀ p, arun Mr Tryz.f23 (sG.enc p).1 (sG.enc p).2 = _ from fun p => by kernel_rfl) (qg [qd 6 Tryz.f23, qd 13 Tryz.f23] (by kernel_rfl) ⟨lpT (by kernel_rfl) O9, ⟨lpT (by kernel_rfl) Nt, trivial⟩⟩) (.cons qW (.cons VJ (.cons EO (.cons uW .nil))))
def IW (c : qF) (flows : Sq Int) (right : Bool) : Option ((Sq qG) × (Sq qE) × Int) := sG.val (c, flows, right)
theorem agl (c : qF) (flows : Sq Int) (right : Bool) : IW c flows right = (Qm c flows right).get := sG.val_eq (fun x => (qF.dec (varL (dB x.2 0)), sqD dI (gd x.1 1), pU (gd x.1 2))) (fun p => by kernel_rfl) (c, flows, right)
end
end Go.Proofs.YtimkpfnbkclclaaGreat.Ab
