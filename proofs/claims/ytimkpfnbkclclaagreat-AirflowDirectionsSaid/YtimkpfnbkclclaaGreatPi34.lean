/- A part of the proof, what is needed of it. -/
import Derived.Test.YtimkpfnbkclclaaGreatPi09
import Derived.Test.YtimkpfnbkclclaaGreatPi24
import Derived.Test.YtimkpfnbkclclaaGreatPi26
import Derived.Test.YtimkpfnbkclclaaGreatPi33
namespace Go.Proofs.YtimkpfnbkclclaaGreat.Ab
open Go
def dirV (f : qB) : Int := if f.Low > f.High then 0 else if f.Low > 0 then 1 else if f.High < 0 then -1 else 0
theorem aqp (f : qB) : Nb f = some (decide (f.Low > f.High)) := by
  rw [agb]; rfl
theorem aqs (f : qB) : Di f = some (dirV f) := by
  rw [aef]; unfold Ja dirV
  rw [get_bind (aqp f)]
  by_cases c1 : f.Low > f.High
  · rw [qo (decide_eq_true c1), if_pos c1]; rfl
  rw [qm (decide_eq_false c1), if_neg c1]
  by_cases c2 : f.Low > 0
  · rw [qo (decide_eq_true c2), if_pos c2]; rfl
  rw [qm (decide_eq_false c2), if_neg c2]
  by_cases c3 : f.High < 0
  · rw [qo (decide_eq_true c3), if_pos c3]; rfl
  · rw [qm (decide_eq_false c3), if_neg c3]; rfl
def fedV (F : Sq qB) (x : rW) : Int :=
  if ¬ (0 ≤ x.Road ∧ x.Road < F.n) then 0 else if (F.f x.Road.toNat).Low > (F.f x.Road.toNat).High then 0
  else if x.Need ≤ 0 ∨ (F.f x.Road.toNat).Low ≥ x.Need ∨ (F.f x.Road.toNat).High ≤ -x.Need then 1
  else if (F.f x.Road.toNat).Low > -x.Need ∧ (F.f x.Road.toNat).High < x.Need then -1 else 0
def NdOK (x : rW) : Prop := -1099511627776 ≤ x.Need ∧ x.Need ≤ 1099511627776
theorem aqB (f : qB) {n : Int} (n0 : -1099511627776 ≤ n) (n1 : n ≤ 1099511627776) : Tg f n = some (if f.Low > f.High then 0 else if n ≤ 0 ∨ f.Low ≥ n ∨ f.High ≤ -n then 1 else if f.Low > -n ∧ f.High < n then -1 else 0) := by
  have w : wr (0 - n) = -n := by rw [pJ (by omega) (by omega)]; omega
  rw [aft]; unfold NZ
  rw [get_bind (aqp f)]
  by_cases c3 : f.Low > f.High
  · rw [qo (decide_eq_true c3), if_pos c3]; rfl
  rw [qm (decide_eq_false c3), if_neg c3]
  by_cases c4 : n ≤ 0
  · rw [qo (decide_eq_true c4), if_pos (.inl c4)]; rfl
  rw [qm (decide_eq_false c4)]
  by_cases c5 : f.Low ≥ n
  · rw [qo (decide_eq_true c5), if_pos (.inr (.inl c5))]; rfl
  rw [qm (decide_eq_false c5), w]
  by_cases c6 : f.High ≤ -n
  · rw [qo (decide_eq_true c6), if_pos (.inr (.inr c6))]; rfl
  rw [qm (decide_eq_false c6), if_neg (show ¬ (n ≤ 0 ∨ f.Low ≥ n ∨ f.High ≤ -n) by omega)]
  by_cases c7 : f.Low > -n
  · rw [qo (decide_eq_true c7)]
    by_cases c8 : f.High < n
    · rw [qo (decide_eq_true c8), if_pos ⟨c7, c8⟩]; rfl
    · rw [qm (decide_eq_false c8), if_neg fun q => c8 q.2]; rfl
  · rw [qm (decide_eq_false c7), if_neg fun q => c7 q.1]; rfl
theorem aqN (F : Sq qB) {l : Sq rW} (ln : l.n ≤ 1000) (h : ∀ j, j < l.n → NdOK (l.f j)) : ∃ r, Jb F l = some r ∧ r.n = l.n ∧ ∀ j, j < l.n → r.f j = fedV F (l.f j) := by
  obtain ⟨z, hz, y, rfl, yn, yf⟩ := pY (step := fun v : Sq Int × Int => Jc F l v.1 v.2)
    (fun v => ∃ k : Nat, v.2 = k ∧ k ≤ l.n ∧ v.1.n = l.n ∧ ∀ j, j < k → v.1.f j = fedV F (l.f j)) (fun v => l.n - v.2.toNat)
    (fun z => ∃ y, z = .inl y ∧ y.n = l.n ∧ ∀ j, j < l.n → y.f j = fedV F (l.f j)) (fun v hv => by
      obtain ⟨o, x⟩ := v
      obtain ⟨k, h1, hk, hl, hf⟩ := hv
      dsimp only at h1 hl hf ⊢
      subst h1
      unfold Jc
      rcases Nat.lt_or_ge k l.n with hi | hi
      · obtain ⟨n0, n1⟩ := h k hi
        have dn : l.n - (wr ((k : Int) + 1)).toNat < l.n - (k : Int).toNat := by rw [qc (by omega)]; omega
        rw [qo (dlt hi), qo (dix hi), qo (dix (by omega)), pI, get_bind (aqn _ _)]
        by_cases c : 0 ≤ (l.f k).Road ∧ (l.f k).Road < F.n
        · rw [qo (decide_eq_true c), qo (decide_eq_true c), get_bind (aqB _ n0 n1), qo (dix (by omega))]
          refine ⟨_, rfl, ⟨k + 1, qc (by omega), hi, hl, fun j hj => ?_⟩, dn⟩
          dsimp only
          by_cases q : j = k
          · rw [ajw q, q]; unfold fedV; rw [if_neg (show ¬ ¬ (0 ≤ (l.f k).Road ∧ (l.f k).Road < F.n) from fun w => w c)]; rfl
          · rw [ajM q]; exact hf j (by omega)
        · rw [qm (decide_eq_false c)]
          refine ⟨_, rfl, ⟨k + 1, qc (by omega), hi, hl, fun j hj => ?_⟩, dn⟩
          dsimp only
          by_cases q : j = k
          · rw [ajw q, q]; unfold fedV; rw [if_pos (show ¬ (0 ≤ (l.f k).Road ∧ (l.f k).Road < F.n) from c)]; rfl
          · rw [ajM q]; exact hf j (by omega)
      · obtain rfl : k = l.n := by omega
        rw [qm (dge (by omega))]
        exact ⟨_, rfl, _, rfl, hl, hf⟩)
    (⟨l.n, fun _ => 0⟩, 0) ⟨0, rfl, Nat.zero_le _, rfl, fun j hj => absurd hj (Nat.not_lt_zero _)⟩
  rw [ahg]; unfold VU
  rw [qo (decide_eq_true ⟨by omega, by omega, by omega, by omega⟩), pI, pV (by rw [afs]; exact hz)]
  exact ⟨y, rfl, yn, yf⟩
def s9 : Sq qG := ⟨1, fun _ => ⟨0, 3, 0, 0, 0, 0, 0, 9⟩⟩
def m9 : Sq qE := ⟨2, fun k => ⟨cond (Nat.beq k 0) 0 0, cond (Nat.beq k 0) 0 0, ⟨cond (Nat.beq k 0) 55 70, cond (Nat.beq k 0) 70 80⟩⟩⟩
def f9 : Sq qB := ⟨1, fun _ => ⟨40, 60⟩⟩
theorem arx {x : qE} (h : x.Sensor = 0) : Tgt f9.n s9 x := by
  unfold Tgt
  rw [h]
  exact ⟨by decide, by decide, rfl, by decide, by decide⟩
theorem arQ : SnOK (s9.f 0) := by
  show SnOK ⟨0, 3, 0, 0, 0, 0, 0, 9⟩
  unfold SnOK
  decide
theorem m9_b (v : Int) : (trun f9 s9 m9 1 m9.n).b v ↔ v = 0 := by
  have a0 : atF (s9.f (m9.f 0).Sensor.toNat) (m9.f 0) 1 = ⟨55, 70⟩ := by
    have sy : Says (s9.f (m9.f 0).Sensor.toNat) (m9.f 0) 1 := ⟨arQ, by decide, by decide, by decide, by decide⟩
    unfold atF
    rw [if_pos sy]; rfl
  have a1 : atF (s9.f (m9.f 1).Sensor.toNat) (m9.f 1) 1 = ⟨70, 80⟩ := by
    have sy : Says (s9.f (m9.f 1).Sensor.toNat) (m9.f 1) 1 := ⟨arQ, by decide, by decide, by decide, by decide⟩
    unfold atF
    rw [if_pos sy]; rfl
  have t1 := aqJ (F := f9) (l := s9) (m := m9) (t := 1) (k := 0) (r := 0) (y := (⟨55, 60⟩, true)) rfl rfl (by rw [a0]; rfl) (arx rfl) rfl
  have t2 := aqJ (F := f9) (l := s9) (m := m9) (t := 1) (k := 1) (r := 0) (y := (noS, false)) rfl rfl (by rw [a1, t1]; rfl) (arx rfl) (by rw [t1]; rfl)
  show (trun f9 s9 m9 1 (1 + 1)).b v ↔ v = 0
  rw [t2, t1]
  dsimp only
  show (((False ∨ ((true = false) ∧ v = (m9.f 0).Sensor)) ∨ ((false = false) ∧ v = (m9.f 1).Sensor)) ↔ v = 0)
  have e : (m9.f 1).Sensor = 0 := rfl
  rw [e]
  simp
theorem arF : rD = some true := by
  obtain ⟨l, el, hl⟩ := aqv aqC (by decide) (by decide)
  have ln : l.n = 1 := hl.nn
  have l0 : l.f 0 = ⟨30, 30⟩ := by
    rw [hl.e 0 (by decide)]; unfold anaF
    rw [arn, if_pos rfl]; exact arA
  obtain ⟨O, B, et, ht⟩ := aqw (F := f9) (l := s9) (m := m9) (t := 1) (by decide) (by decide) fun i hi _ => by
    have hi : i < 2 := hi
    rcases (show i = 0 ∨ i = 1 by omega) with q | q <;> subst q <;> unfold MsOK <;> decide
  have On : O.n = 1 := ht.nn
  have b0 : In B 0 := (ht.i 0).2 ((m9_b 0).2 rfl)
  have bz : ∀ v, In B v → v = 0 := fun v hv => (m9_b v).1 ((ht.i v).1 hv)
  have Bn : B.n = 1 := by
    obtain ⟨j, hj, _⟩ := b0
    rcases Nat.lt_or_ge 1 B.n with c | c
    · have := ht.up 0 1 (by omega) c
      have e0 := bz _ ⟨0, by omega, rfl⟩
      have e1 := bz _ ⟨1, by omega, rfl⟩
      omega
    · omega
  have es : Gd l ⟨1, fun _ => ⟨30, 30⟩⟩ = some true := alH (by omega) ln fun j hj => by
    obtain rfl : j = 0 := by omega
    exact l0
  have eb : Gc B ⟨1, fun _ => 0⟩ = some true := aqE (by omega) Bn fun j hj => bz _ ⟨j, hj, rfl⟩
  obtain ⟨r, er, rn, rf⟩ := aqN l (l := ⟨1, fun _ => ⟨0, 31⟩⟩) (by decide) fun j _ => (⟨by decide, by decide⟩ : NdOK ⟨0, 31⟩)
  have ef : Gc r ⟨1, fun _ => -1⟩ = some true := by
    have rn : r.n = 1 := rn
    refine aqE (by omega) rn fun j hj => ?_
    obtain rfl : j = 0 := by omega
    rw [rf 0 (by decide)]
    unfold fedV
    rw [ln, show (l.f (Int.toNat (rW.mk 0 31).Road)) = ⟨30, 30⟩ from l0]
    rfl
  rw [ahq]; unfold WB
  refine (get_bind el).trans ?_
  refine (get_bind et).trans ?_
  dsimp only
  rw [qo (show ((0 : Int) == 0) = true from rfl), get_bind es, qo rfl, qo (by rw [On]; rfl), get_bind eb, qo rfl, qo (decide_eq_true ⟨by omega, by omega⟩), get_bind (aqs _), l0, qo (by rfl)]
  refine (get_bind er).trans ?_
  rw [get_bind ef]; rfl
end Go.Proofs.YtimkpfnbkclclaaGreat.Ab
namespace Go.Proofs.YtimkpfnbkclclaaGreat.Ab
noncomputable section
open Go
attribute [local irreducible] arun
def I9 (u3_0 u3_1 : Sq Int) (u3_2 : Int) (u3_3 : Sq qB) (u3_4 : Int) : DT (LR (Int × (Sq qB) × Int) (Int × (Sq qB)) (Unit)) :=
 .ite (decide (u3_4 < ((u3_0.n : Nat) : Int))) (
 .ite (decide ((0 : Int) ≤ u3_4 ∧ u3_4 < ((u3_0.n : Nat) : Int))) (
 .bind (qJ (qF.mk u3_1 u3_2) (12 : Int)) fun z0 =>
 .ite (decide ((0 : Int) ≤ u3_4 ∧ u3_4 < ((u3_0.n : Nat) : Int))) (
 .bind (qJ (qF.mk u3_1 z0.2) (12 : Int)) fun z1 =>
 .ite (decide ((u3_3.n + 1) * 16 ≤ 140737488355328 ∧ (u3_3.n + 1) ≤ 1099511627776)) (
 .leaf (.next (z1.2, (Sq.mk (u3_3.n + 1) (fun k0 => (qB.mk (cond (Nat.blt k0 u3_3.n) (u3_3.f k0).Low (wr ((u3_0.f (Int.toNat u3_4)) - z0.1))) (cond (Nat.blt k0 u3_3.n) (u3_3.f k0).High (wr ((u3_0.f (Int.toNat u3_4)) + z1.1)))))), (wr (u3_4 + (1 : Int)))))) (
 .fail)) (
 .fail)) (
 .fail)) (
 .leaf (.l (u3_2, u3_3)))
def A8 : LpM := ⟨(Sq Int) × (Sq Int), Int × (Sq qB) × Int, Int × (Sq qB), Unit, fun p => ⟨[(0, .ptr 0 0), (1, sqA 1 (eI .i64) p.1.1), (5, .own 65 0), (6, .int .i64 p.2.2.2)], [(0, .var [sqA 1 (eI .u8) p.1.2, .int .i64 p.2.1]), (65, rowA 0 2 51 qB.enc p.2.2.1)], 193⟩, fun f v => I9 f.1 f.2 v.1 v.2.1 v.2.2, true, (.exit 0), (fun x a => ⟨[(5, .own 65 0)], [(0, .var [cellS x 0 0, .int .i64 a.1]), (65, rowA 0 2 51 qB.enc a.2)], 193⟩), .ret, (fun _ _ => ⟨[], [], 0⟩), c1, c1k⟩
def Tc (u3_0 u3_1 : Sq Int) (u3_2 : Int) (u3_3 : Sq qB) (u3_4 : Int) : Option ((Int × (Sq qB)) ⊕ (Unit)) := A8.val ((u3_0, u3_1), (u3_2, u3_3, u3_4))
theorem afq (u3_0 u3_1 : Sq Int) (u3_2 : Int) (u3_3 : Sq qB) (u3_4 : Int) : Tc u3_0 u3_1 u3_2 u3_3 u3_4 = fixO (fun v : Int × (Sq qB) × Int => I9 u3_0 u3_1 v.1 v.2.1 v.2.2) (u3_2, u3_3, u3_4) := A8.val_eq (fun x => ((sqD dI (aget x.tm 1), sqD dI (cellS x 0 0)), (intA (cellS x 0 1), sqB qB.dec (blkS x 65), intA (aget x.tm 6)))) (fun p => by kernel_rfl) ((u3_0, u3_1), (u3_2, u3_3, u3_4))
def VL (c : qF) (flows : Sq Int) : DT ((Sq qB) × Int) :=
 .sum (Tc flows c.l_ c.at_ (Sq.mk 0 (fun _ => (qB.mk (0 : Int) (0 : Int)))) (0 : Int)) (fun y0 =>
 .leaf (y0.2, y0.1)) (fun _ => .fail)
def wC : FnM := nfM (qF × (Sq Int)) ((Sq qB) × Int) (fun p => ([.ptr 0 0, sqA 1 (eI .i64) p.2], [.var (qF.enc p.1)])) (fun p => VL p.1 p.2) (fun _ => .own 1 0) (fun ins r => [.var [ql ins 0 0, .int .i64 r.2], rowA 0 2 51 qB.enc r.1])
def Pv : Env := envM [(28, qX.c)] [(3, [0, 1, 5, 6], [5])] [(3, A8.c)] [(1000003, [.asrow 65 51 2 (fun _ => qB.enc (qB.mk (0 : Int) (0 : Int)))])] [(3, [0, 65])] 1
def ac0 : Env := { Pv with nt := 32 }
theorem RI : aQ ac0 (qd 3 Tryz.f18) A8.c := A8.tells 193 (fun _ => by kernel_rfl) (fun _ _ _ _ => by kernel_rfl) (fun _ _ _ _ => by kernel_rfl) fun R f v N K => by kernel_rfl
theorem F8 : aI Tryz.prog 18 wC.c := wC.tells Tryz.func18 (show ∀ p, arun Pv Tryz.f18 (wC.enc p).1 (wC.enc p).2 = _ from fun p => by kernel_rfl) (qg [qd 3 Tryz.f18] (by kernel_rfl) ⟨lpT (by kernel_rfl) RI, trivial⟩) (.cons qW .nil)
def M8 (c : qF) (flows : Sq Int) : Option ((Sq qB) × Int) := wC.val (c, flows)
theorem ahf (c : qF) (flows : Sq Int) : M8 c flows = (VL c flows).get := wC.val_eq (fun x => (qF.dec (varL (dB x.2 0)), sqD dI (gd x.1 1))) (fun p => by kernel_rfl) (c, flows)
def I5 (u3_1 : Sq Int) (_u3_3 : Sq qA) (u3_4 : Sq qC) (_u3_5 : Sq SFan) (_u3_6 : Sq qD) (u3_0 u3_2 : Int) (u3_7 : Sq rW) : DT (LR (Int × Int × (Sq rW)) (Int × (Sq rW)) (Unit)) :=
 .ite (decide (u3_0 > (0 : Int))) (
 .bind (qJ (qF.mk u3_1 u3_2) (wr (((u3_4.n : Nat) : Int) + (1 : Int)))) fun z0 =>
 .bind (qQ (qF.mk u3_1 z0.2) (-2 : Int) (40 : Int)) fun z1 =>
 .ite (decide ((u3_7.n + 1) * 16 ≤ 140737488355328 ∧ (u3_7.n + 1) ≤ 1099511627776)) (
 .leaf (.next ((wr (u3_0 - (1 : Int))), z1.2, (Sq.mk (u3_7.n + 1) (fun k0 => (rW.mk (cond (Nat.blt k0 u3_7.n) (u3_7.f k0).Road z0.1) (cond (Nat.blt k0 u3_7.n) (u3_7.f k0).Need z1.1))))))) (
 .fail)) (
 .leaf (.l (u3_2, u3_7)))
def AQ : LpM := ⟨(Sq Int) × (Sq qA) × (Sq qC) × (Sq SFan) × (Sq qD), Int × Int × (Sq rW), Int × (Sq rW), Unit, fun p => ⟨[(0, .ptr 0 0), (3, .ptr 1 0), (5, .own 129 0), (6, .int .i64 p.2.1)], [(0, .var [sqA 1 (eI .u8) p.1.1, .int .i64 p.2.2.1]), (1, .var [sqA 2 qA.enc p.1.2.1, sqA 10 qC.enc p.1.2.2.1, sqA 4 SFan.enc p.1.2.2.2.1, sqA 3 qD.enc p.1.2.2.2.2]), (129, rowA 0 2 54 rW.enc p.2.2.2)], 385⟩, fun f v => I5 f.1 f.2.1 f.2.2.1 f.2.2.2.1 f.2.2.2.2 v.1 v.2.1 v.2.2, true, (.exit 0), (fun x a => ⟨[(5, .own 129 0)], [(0, .var [cellS x 0 0, .int .i64 a.1]), (1, blkS x 1), (129, rowA 0 2 54 rW.enc a.2)], 385⟩), .ret, (fun _ _ => ⟨[], [], 0⟩), c1, c1k⟩
def SY (u3_1 : Sq Int) (u3_3 : Sq qA) (u3_4 : Sq qC) (u3_5 : Sq SFan) (u3_6 : Sq qD) (u3_0 u3_2 : Int) (u3_7 : Sq rW) : Option ((Int × (Sq rW)) ⊕ (Unit)) := AQ.val ((u3_1, u3_3, u3_4, u3_5, u3_6), (u3_0, u3_2, u3_7))
theorem afm (u3_1 : Sq Int) (u3_3 : Sq qA) (u3_4 : Sq qC) (u3_5 : Sq SFan) (u3_6 : Sq qD) (u3_0 u3_2 : Int) (u3_7 : Sq rW) : SY u3_1 u3_3 u3_4 u3_5 u3_6 u3_0 u3_2 u3_7 = fixO (fun v : Int × Int × (Sq rW) => I5 u3_1 u3_3 u3_4 u3_5 u3_6 v.1 v.2.1 v.2.2) (u3_0, u3_2, u3_7) := AQ.val_eq (fun x => ((sqD dI (cellS x 0 0), sqD qA.dec (cellS x 1 0), sqD qC.dec (cellS x 1 1), sqD SFan.dec (cellS x 1 2), sqD qD.dec (cellS x 1 3)), (intA (aget x.tm 6), intA (cellS x 0 1), sqB rW.dec (blkS x 129)))) (fun p => by kernel_rfl) ((u3_1, u3_3, u3_4, u3_5, u3_6), (u3_0, u3_2, u3_7))
def VH (c : qF) (a : SAir) : DT ((Sq rW) × Int) :=
 .bind (qJ c (4 : Int)) fun z2 =>
 .sum (SY c.l_ a.Mine.Places a.Mine.Roads a.Fans a.Doors z2.1 z2.2 (Sq.mk 0 (fun _ => (rW.mk (0 : Int) (0 : Int))))) (fun y0 =>
 .leaf (y0.2, y0.1)) (fun _ => .fail)
def x9 : FnM := nfM (qF × SAir) ((Sq rW) × Int) (fun p => ([.ptr 0 0, .agg (SAir.enc p.2)], [.var (qF.enc p.1)])) (fun p => VH p.1 p.2) (fun _ => .own 1 0) (fun ins r => [.var [ql ins 0 0, .int .i64 r.2], rowA 0 2 54 rW.enc r.1])
def Pp : Env := envM [(28, qX.c), (32, tq.c)] [(3, [0, 3, 5, 6], [5])] [(3, AQ.c)] [(1000003, [.asrow 129 54 2 (fun _ => rW.enc (rW.mk (0 : Int) (0 : Int)))])] [(3, [0, 1, 129])] 1
def acY : Env := { Pp with nt := 27 }
theorem RD : aQ acY (qd 3 Tryz.f29) AQ.c := AQ.tells 385 (fun _ => by kernel_rfl) (fun _ _ _ _ => by kernel_rfl) (fun _ _ _ _ => by kernel_rfl) fun R f v N K => by kernel_rfl
theorem Ls : aI Tryz.prog 29 x9.c := x9.tells Tryz.func29 (show ∀ p, arun Pp Tryz.f29 (x9.enc p).1 (x9.enc p).2 = _ from fun p => by kernel_rfl) (qg [qd 3 Tryz.f29] (by kernel_rfl) ⟨lpT (by kernel_rfl) RD, trivial⟩) (.cons qW (.cons uW .nil))
def UN (c : qF) (a : SAir) : Option ((Sq rW) × Int) := x9.val (c, a)
theorem ahd (c : qF) (a : SAir) : UN c a = (VH c a).get := x9.val_eq (fun x => (qF.dec (varL (dB x.2 0)), SAir.dec (aggL (gd x.1 1)))) (fun p => by kernel_rfl) (c, a)
end
end Go.Proofs.YtimkpfnbkclclaaGreat.Ab
namespace Go.Proofs.YtimkpfnbkclclaaGreat.Ab
open Go
theorem arl {c : qF} (hc : CdOK c) {q : Sq Int} (hn : q.n ≤ 1000) (hq : ∀ j, j < q.n → -1048576 ≤ q.f j ∧ q.f j ≤ 1048576) : ∃ l b, M8 c q = some (l, b) ∧ 0 ≤ b ∧ b ≤ 300 ∧ l.n = q.n ∧ ∀ j, j < q.n → q.f j - 12 ≤ (l.f j).Low ∧ (l.f j).Low ≤ q.f j ∧ q.f j ≤ (l.f j).High ∧ (l.f j).High ≤ q.f j + 12 := by
  have b0 := hc.a0
  have b1 := hc.a1
  obtain ⟨z, hz, b, l, rfl, g0, g1, gn, gf⟩ := pY (step := fun v : Int × Sq qB × Int => I9 q c.l_ v.1 v.2.1 v.2.2)
    (fun v => ∃ k : Nat, v.2.2 = k ∧ k ≤ q.n ∧ 0 ≤ v.1 ∧ v.1 ≤ 300 ∧ v.2.1.n = k ∧ ∀ j, j < k → q.f j - 12 ≤ (v.2.1.f j).Low ∧ (v.2.1.f j).Low ≤ q.f j ∧ q.f j ≤ (v.2.1.f j).High ∧ (v.2.1.f j).High ≤ q.f j + 12) (fun v => q.n - v.2.2.toNat)
    (fun z => ∃ b l, z = .inl (b, l) ∧ 0 ≤ b ∧ b ≤ 300 ∧ l.n = q.n ∧ ∀ j, j < q.n → q.f j - 12 ≤ (l.f j).Low ∧ (l.f j).Low ≤ q.f j ∧ q.f j ≤ (l.f j).High ∧ (l.f j).High ≤ q.f j + 12) (fun v hv => by
      obtain ⟨b, l, x⟩ := v
      obtain ⟨k, h1, hk, h2, h3, hl, hf⟩ := hv
      dsimp only at h1 h2 h3 hl hf ⊢
      subst h1
      unfold I9
      rcases Nat.lt_or_ge k q.n with hi | hi
      · have bq := hq k hi
        obtain ⟨v1, a1, e1, p0, p1, p2, p3, _⟩ := aiO (hc.at h2 h3) 12 (by omega)
        obtain ⟨v2, a2, e2, q0, q1, q2, q3, _⟩ := aiO (hc.at p0 p1) 12 (by omega)
        have p3 := p3 (by omega)
        have q3 := q3 (by omega)
        rw [qo (dlt hi), qo (dix hi), get_bind e1, qo (dix hi), get_bind e2, qo (decide_eq_true ⟨by omega, by omega⟩), pI]
        refine ⟨_, rfl, ⟨k + 1, qc (by omega), hi, q0, q1, by dsimp only; omega, fun j hj => ?_⟩, by dsimp only; rw [qc (by omega)]; omega⟩
        dsimp only
        by_cases c : j < l.n
        · rw [ajf c]; exact hf j (by omega)
        · obtain rfl : j = k := by omega
          rw [ajl (by omega), pJ (x := q.f j - v1) (by omega) (by omega), pJ (x := q.f j + v2) (by omega) (by omega)]
          dsimp only [cond]
          omega
      · obtain rfl : k = q.n := by omega
        rw [qm (dge (by omega))]
        exact ⟨_, rfl, _, _, rfl, h2, h3, hl, hf⟩)
    (c.at_, ⟨0, fun _ => ⟨0, 0⟩⟩, 0) ⟨0, rfl, Nat.zero_le _, b0, b1, rfl, fun j hj => absurd hj (Nat.not_lt_zero _)⟩
  rw [ahf]; unfold VL
  rw [pV (by rw [afq]; exact hz)]
  exact ⟨l, b, rfl, g0, g1, gn, gf⟩
theorem ark {c : qF} (hc : CdOK c) (a : SAir) (hn : a.Mine.Roads.n ≤ 1000) : ∃ l b, UN c a = some (l, b) ∧ 0 ≤ b ∧ b ≤ 300 ∧ l.n ≤ 3 ∧ ∀ j, j < l.n → 0 ≤ (l.f j).Road ∧ (l.f j).Road ≤ a.Mine.Roads.n ∧ -2 ≤ (l.f j).Need ∧ (l.f j).Need ≤ 40 := by
  obtain ⟨v0, a0, e0, s0, s1, s2, s3, _⟩ := aiO hc 4 (by omega)
  have s3 := s3 (by omega)
  obtain ⟨z, hz, b, l, rfl, g0, g1, gn, gf⟩ := pY (step := fun v : Int × Int × Sq rW => I5 c.l_ a.Mine.Places a.Mine.Roads a.Fans a.Doors v.1 v.2.1 v.2.2)
    (fun v => 0 ≤ v.1 ∧ v.1 + v.2.2.n ≤ 3 ∧ 0 ≤ v.2.1 ∧ v.2.1 ≤ 300 ∧ ∀ j, j < v.2.2.n → 0 ≤ (v.2.2.f j).Road ∧ (v.2.2.f j).Road ≤ a.Mine.Roads.n ∧ -2 ≤ (v.2.2.f j).Need ∧ (v.2.2.f j).Need ≤ 40) (fun v => v.1.toNat)
    (fun z => ∃ b l, z = .inl (b, l) ∧ 0 ≤ b ∧ b ≤ 300 ∧ l.n ≤ 3 ∧ ∀ j, j < l.n → 0 ≤ (l.f j).Road ∧ (l.f j).Road ≤ a.Mine.Roads.n ∧ -2 ≤ (l.f j).Need ∧ (l.f j).Need ≤ 40) (fun v hv => by
      obtain ⟨n, b, l⟩ := v
      obtain ⟨h1, hk, h2, h3, hf⟩ := hv
      dsimp only at h1 hk h2 h3 hf ⊢
      unfold I5
      by_cases hi : n > 0
      · obtain ⟨v1, a1, e1, p0, p1, p2, p3, _⟩ := aiO (hc.at h2 h3) ((a.Mine.Roads.n : Int) + 1) (by omega)
        obtain ⟨v2, a2, e2, q0, q1, q2, q3⟩ := aiT (hc.at p0 p1) (-2) 40 (by omega) (by omega) (by omega)
        have p3 := p3 (by omega)
        rw [qo (decide_eq_true hi), pJ (x := (a.Mine.Roads.n : Int) + 1) (by omega) (by omega), get_bind e1, get_bind e2, qo (decide_eq_true ⟨by omega, by omega⟩), pJ (x := n - 1) (by omega) (by omega)]
        refine ⟨_, rfl, ⟨by dsimp only; omega, by dsimp only; omega, q0, q1, fun j hj => ?_⟩, by dsimp only; omega⟩
        dsimp only at hj ⊢
        by_cases c : j < l.n
        · rw [ajf c]; exact hf j c
        · rw [ajl (by omega)]
          dsimp only [cond]
          omega
      · rw [qm (decide_eq_false hi)]
        exact ⟨_, rfl, _, _, rfl, h2, h3, by omega, hf⟩)
    (v0, a0, ⟨0, fun _ => ⟨0, 0⟩⟩) ⟨s2, by dsimp only; omega, s0, s1, fun j hj => absurd hj (Nat.not_lt_zero _)⟩
  rw [ahd]; unfold VH
  rw [get_bind e0, pV (by rw [afm]; exact hz)]
  exact ⟨l, b, rfl, g0, g1, gn, gf⟩
structure SnD (n : Nat) (s : qG) : Prop where
  k : 1 ≤ s.Kind ∧ s.Kind ≤ 6
  t : 0 ≤ s.Target ∧ s.Target < n
  ok : SnOK s
  l : 1 ≤ s.Life ∧ s.Life ≤ 200
  d : 0 ≤ s.Drift ∧ s.Drift < 700
structure MsD (q : Sq Int) (l : Sq qG) (right : Bool) (x : qE) : Prop where
  s : -2 ≤ x.Sensor ∧ x.Sensor ≤ 6
  t : 0 ≤ x.Time ∧ x.Time < 30
  lo : -1049000 ≤ x.Span.Low ∧ x.Span.Low ≤ 1049000
  hi : -1049000 ≤ x.Span.High ∧ x.Span.High ≤ 1049000
  r : right = true → 0 ≤ x.Sensor ∧ x.Sensor < l.n ∧ x.Span.Low ≤ q.f (l.f x.Sensor.toNat).Target.toNat ∧ q.f (l.f x.Sensor.toNat).Target.toNat ≤ x.Span.High
theorem SnD.kind {n : Nat} {s : qG} (h : SnD n s) {k : Int} (k0 : 1 ≤ k) (k1 : k ≤ 6) : SnD n ⟨s.Address, k, s.Target, s.Offset, s.Scale, s.Error, s.Drift, s.Life⟩ :=
  ⟨⟨k0, k1⟩, h.t, ⟨⟨k0, k1⟩, h.ok.2⟩, h.l, h.d⟩
def SnQ (n : Nat) (right : Bool) (s : qG) : Prop := SnD n s ∧ (right = true → s.Kind = 3)
structure FwD (q : Sq Int) (right : Bool) (l : Sq qG) (m : Sq qE) : Prop where
  ln : l.n ≤ 3
  mn : m.n ≤ 4
  s : ∀ j, j < l.n → SnQ q.n right (l.f j)
  m : ∀ j, j < m.n → MsD q l right (m.f j)
end Go.Proofs.YtimkpfnbkclclaaGreat.Ab
namespace Go.Proofs.YtimkpfnbkclclaaGreat.Ab
noncomputable section
open Go
attribute [local irreducible] arun
def MK (f : qB) : DT (Int) :=
 .ite (decide (f.Low > f.High)) (
 .leaf (0 : Int)) (
 .ite (decide (f.Low > (0 : Int))) (
 .leaf (1 : Int)) (
 .ite (decide (f.High < (0 : Int))) (.leaf (-1 : Int)) (.leaf (0 : Int))))
def vk : FnM := flM (qB) (Int) (fun p => ([.agg (qB.enc p)], [])) (fun p => MK p) (fun r => .int .i64 r) (fun _ => rfl)
def Vw : Env := envM [] [] [] [] [] 0
theorem Rl : aI Tryz.prog 17 vk.c := vk.tells Tryz.func17 (show ∀ p, arun Vw Tryz.f17 (vk.enc p).1 (vk.enc p).2 = _ from fun p => by kernel_rfl) p8 .nil
def Rk (f : qB) : Option (Int) := vk.val f
theorem afg (f : qB) : Rk f = (MK f).get := vk.val_eq (fun x => qB.dec (aggL (gd x.1 0))) (fun p => by kernel_rfl) f
def ML (u3_0 : Sq qB) (u3_1 : Sq rW) (u3_2 : Sq Int) (u3_3 : Int) : DT (LR ((Sq Int) × Int) ((Sq Int)) (Unit)) :=
 .ite (decide (u3_3 < ((u3_1.n : Nat) : Int))) (
 .ite (decide ((0 : Int) ≤ u3_3 ∧ u3_3 < ((u3_1.n : Nat) : Int))) (
 .ite (decide ((u3_1.f (Int.toNat u3_3)).Road ≥ (0 : Int))) (
 .ite (decide ((u3_1.f (Int.toNat u3_3)).Road < ((u3_0.n : Nat) : Int))) (
 .ite (decide ((0 : Int) ≤ (u3_1.f (Int.toNat u3_3)).Road ∧ (u3_1.f (Int.toNat u3_3)).Road < ((u3_0.n : Nat) : Int))) (
 .ite (decide ((0 : Int) ≤ (u3_1.f (Int.toNat u3_3)).Road ∧ (u3_1.f (Int.toNat u3_3)).Road < ((u3_0.n : Nat) : Int))) (
 .ite (decide ((u3_0.f (Int.toNat (u3_1.f (Int.toNat u3_3)).Road)).Low ≤ (u3_0.f (Int.toNat (u3_1.f (Int.toNat u3_3)).Road)).High)) (
 .ite (decide ((0 : Int) ≤ (u3_1.f (Int.toNat u3_3)).Road ∧ (u3_1.f (Int.toNat u3_3)).Road < ((u3_0.n : Nat) : Int))) (
 .ite (decide ((u3_1.f (Int.toNat u3_3)).Need ≤ (0 : Int))) (
 .ite (decide ((u3_2.n + 1) * 8 ≤ 140737488355328 ∧ (u3_2.n + 1) ≤ 1099511627776)) (
 .leaf (.next ((Sq.mk (u3_2.n + 1) (fun k0 => (cond (Nat.blt k0 u3_2.n) (u3_2.f k0) (1 : Int)))), (wr (u3_3 + (1 : Int)))))) (
 .fail)) (
 .ite (decide ((u3_0.f (Int.toNat (u3_1.f (Int.toNat u3_3)).Road)).Low ≥ (u3_1.f (Int.toNat u3_3)).Need)) (
 .ite (decide ((u3_2.n + 1) * 8 ≤ 140737488355328 ∧ (u3_2.n + 1) ≤ 1099511627776)) (
 .leaf (.next ((Sq.mk (u3_2.n + 1) (fun k1 => (cond (Nat.blt k1 u3_2.n) (u3_2.f k1) (1 : Int)))), (wr (u3_3 + (1 : Int)))))) (
 .fail)) (
 .ite (decide ((u3_0.f (Int.toNat (u3_1.f (Int.toNat u3_3)).Road)).High ≤ (wr (0 - (u3_1.f (Int.toNat u3_3)).Need)))) (
 .ite (decide ((u3_2.n + 1) * 8 ≤ 140737488355328 ∧ (u3_2.n + 1) ≤ 1099511627776)) (
 .leaf (.next ((Sq.mk (u3_2.n + 1) (fun k2 => (cond (Nat.blt k2 u3_2.n) (u3_2.f k2) (1 : Int)))), (wr (u3_3 + (1 : Int)))))) (
 .fail)) (
 .ite (decide ((u3_0.f (Int.toNat (u3_1.f (Int.toNat u3_3)).Road)).Low > (wr (0 - (u3_1.f (Int.toNat u3_3)).Need)))) (
 .ite (decide ((u3_0.f (Int.toNat (u3_1.f (Int.toNat u3_3)).Road)).High < (u3_1.f (Int.toNat u3_3)).Need)) (
 .ite (decide ((u3_2.n + 1) * 8 ≤ 140737488355328 ∧ (u3_2.n + 1) ≤ 1099511627776)) (
 .leaf (.next ((Sq.mk (u3_2.n + 1) (fun k3 => (cond (Nat.blt k3 u3_2.n) (u3_2.f k3) (-1 : Int)))), (wr (u3_3 + (1 : Int)))))) (
 .fail)) (
 .ite (decide ((u3_2.n + 1) * 8 ≤ 140737488355328 ∧ (u3_2.n + 1) ≤ 1099511627776)) (
 .leaf (.next ((Sq.mk (u3_2.n + 1) (fun k4 => (cond (Nat.blt k4 u3_2.n) (u3_2.f k4) (0 : Int)))), (wr (u3_3 + (1 : Int)))))) (
 .fail))) (
 .ite (decide ((u3_2.n + 1) * 8 ≤ 140737488355328 ∧ (u3_2.n + 1) ≤ 1099511627776)) (
 .leaf (.next ((Sq.mk (u3_2.n + 1) (fun k5 => (cond (Nat.blt k5 u3_2.n) (u3_2.f k5) (0 : Int)))), (wr (u3_3 + (1 : Int)))))) (
 .fail)))))) (
 .fail)) (
 .ite (decide ((u3_2.n + 1) * 8 ≤ 140737488355328 ∧ (u3_2.n + 1) ≤ 1099511627776)) (
 .leaf (.next ((Sq.mk (u3_2.n + 1) (fun k6 => (cond (Nat.blt k6 u3_2.n) (u3_2.f k6) (0 : Int)))), (wr (u3_3 + (1 : Int)))))) (
 .fail))) (
 .fail)) (
 .fail)) (
 .ite (decide ((u3_2.n + 1) * 8 ≤ 140737488355328 ∧ (u3_2.n + 1) ≤ 1099511627776)) (
 .leaf (.next ((Sq.mk (u3_2.n + 1) (fun k7 => (cond (Nat.blt k7 u3_2.n) (u3_2.f k7) (0 : Int)))), (wr (u3_3 + (1 : Int)))))) (
 .fail))) (
 .ite (decide ((u3_2.n + 1) * 8 ≤ 140737488355328 ∧ (u3_2.n + 1) ≤ 1099511627776)) (
 .leaf (.next ((Sq.mk (u3_2.n + 1) (fun k8 => (cond (Nat.blt k8 u3_2.n) (u3_2.f k8) (0 : Int)))), (wr (u3_3 + (1 : Int)))))) (
 .fail))) (
 .fail)) (
 .leaf (.l u3_2))
def D8 : LpM := ⟨(Sq qB) × (Sq rW), (Sq Int) × Int, (Sq Int), Unit, fun p => ⟨[(0, sqA 2 qB.enc p.1.1), (1, sqA 2 rW.enc p.1.2), (5, .own 64 0), (6, .int .i64 p.2.2)], [(64, rowA 0 1 3 (eI .i64) p.2.1)], 192⟩, fun f v => ML f.1 f.2 v.1 v.2, true, (.exit 0), (fun _ a => ⟨[(5, .own 64 0)], [(64, rowA 0 1 3 (eI .i64) a)], 192⟩), .ret, (fun _ _ => ⟨[], [], 0⟩), c1, c1k⟩
def Zw (u3_0 : Sq qB) (u3_1 : Sq rW) (u3_2 : Sq Int) (u3_3 : Int) : Option (((Sq Int)) ⊕ (Unit)) := D8.val ((u3_0, u3_1), (u3_2, u3_3))
theorem ag6 (u3_0 : Sq qB) (u3_1 : Sq rW) (u3_2 : Sq Int) (u3_3 : Int) : Zw u3_0 u3_1 u3_2 u3_3 = fixO (fun v : (Sq Int) × Int => ML u3_0 u3_1 v.1 v.2) (u3_2, u3_3) := D8.val_eq (fun x => ((sqD qB.dec (aget x.tm 0), sqD rW.dec (aget x.tm 1)), (sqB dI (blkS x 64), intA (aget x.tm 6)))) (fun p => by kernel_rfl) ((u3_0, u3_1), (u3_2, u3_3))
def abw (flows : Sq qB) (faces : Sq rW) : DT ((Sq Int)) :=
 .sum (Zw flows faces (Sq.mk 0 (fun _ => (0 : Int))) (0 : Int)) (fun y0 =>
 .leaf y0) (fun _ => .fail)
def CY : FnM := nfM ((Sq qB) × (Sq rW)) ((Sq Int)) (fun p => ([sqA 2 qB.enc p.1, sqA 2 rW.enc p.2], [])) (fun p => abw p.1 p.2) (fun _ => .own 0 0) (fun _ r => [rowA 0 1 3 (eI .i64) r])
def XC : Env := envM [] [(3, [0, 1, 5, 6], [5])] [(3, D8.c)] [(1000003, [.asrow 64 3 1 (fun _ => (eI .i64) (0 : Int))])] [(3, [64])] 0
def aeM : Env := { XC with nt := 86 }
theorem XD : aQ aeM (qd 3 Tryz.f21) D8.c := D8.tells 192 (fun _ => by kernel_rfl) (fun _ _ _ _ => by kernel_rfl) (fun _ _ _ _ => by kernel_rfl) fun R f v N K => by kernel_rfl
theorem Rm : aI Tryz.prog 21 CY.c := CY.tells Tryz.func21 (show ∀ p, arun XC Tryz.f21 (CY.enc p).1 (CY.enc p).2 = _ from fun p => by kernel_rfl) (qg [qd 3 Tryz.f21] (by kernel_rfl) ⟨lpT (by kernel_rfl) XD, trivial⟩) .nil
def abu (flows : Sq qB) (faces : Sq rW) : Option ((Sq Int)) := CY.val (flows, faces)
theorem aiA (flows : Sq qB) (faces : Sq rW) : abu flows faces = (abw flows faces).get := CY.val_eq (fun x => (sqD qB.dec (gd x.1 0), sqD rW.dec (gd x.1 1))) (fun p => by kernel_rfl) (flows, faces)
end
end Go.Proofs.YtimkpfnbkclclaaGreat.Ab
