/- A part of the proof, what is needed of it. -/
import Derived.Test.YtimkpfnbkclclaaGreatPm05
import Derived.Test.YtimkpfnbkclclaaGreatPm16
import Derived.Test.YtimkpfnbkclclaaGreatPm23
import Derived.Test.YtimkpfnbkclclaaGreatPm25
import Derived.Test.YtimkpfnbkclclaaGreatPm32
namespace Go.Proofs.YtimkpfnbkclclaaGreat.Ab
open Go
def dirV (f : qB) : Int := if f.Low > f.High then 0 else if f.Low > 0 then 1 else if f.High < 0 then -1 else 0
theorem aqp (f : qB) : Nb f = some (decide (f.Low > f.High)) := by
  rw [agb]; rfl
theorem aqs (f : qB) : Di f = some (dirV f) := by
  rw [aef]; unfold Ja dirV
  rw [get_bind (aqp f)]
  by_cases c1 : f.Low > f.High
  · rw [qo (decide_eq_true c1), if_pos c1]; rfl
  rw [qm (decide_eq_false c1), if_neg c1]
  by_cases c2 : f.Low > 0
  · rw [qo (decide_eq_true c2), if_pos c2]; rfl
  rw [qm (decide_eq_false c2), if_neg c2]
  by_cases c3 : f.High < 0
  · rw [qo (decide_eq_true c3), if_pos c3]; rfl
  · rw [qm (decide_eq_false c3), if_neg c3]; rfl
def fedV (F : Sq qB) (x : rW) : Int :=
  if ¬ (0 ≤ x.Road ∧ x.Road < F.n) then 0 else if (F.f x.Road.toNat).Low > (F.f x.Road.toNat).High then 0
  else if x.Need ≤ 0 ∨ (F.f x.Road.toNat).Low ≥ x.Need ∨ (F.f x.Road.toNat).High ≤ -x.Need then 1
  else if (F.f x.Road.toNat).Low > -x.Need ∧ (F.f x.Road.toNat).High < x.Need then -1 else 0
def NdOK (x : rW) : Prop := -1099511627776 ≤ x.Need ∧ x.Need ≤ 1099511627776
theorem aqB (f : qB) {n : Int} (n0 : -1099511627776 ≤ n) (n1 : n ≤ 1099511627776) : Tg f n = some (if f.Low > f.High then 0 else if n ≤ 0 ∨ f.Low ≥ n ∨ f.High ≤ -n then 1 else if f.Low > -n ∧ f.High < n then -1 else 0) := by
  have w : wr (0 - n) = -n := by rw [pJ (by omega) (by omega)]; omega
  rw [aft]; unfold NZ
  rw [get_bind (aqp f)]
  by_cases c3 : f.Low > f.High
  · rw [qo (decide_eq_true c3), if_pos c3]; rfl
  rw [qm (decide_eq_false c3), if_neg c3]
  by_cases c4 : n ≤ 0
  · rw [qo (decide_eq_true c4), if_pos (.inl c4)]; rfl
  rw [qm (decide_eq_false c4)]
  by_cases c5 : f.Low ≥ n
  · rw [qo (decide_eq_true c5), if_pos (.inr (.inl c5))]; rfl
  rw [qm (decide_eq_false c5), w]
  by_cases c6 : f.High ≤ -n
  · rw [qo (decide_eq_true c6), if_pos (.inr (.inr c6))]; rfl
  rw [qm (decide_eq_false c6), if_neg (show ¬ (n ≤ 0 ∨ f.Low ≥ n ∨ f.High ≤ -n) by omega)]
  by_cases c7 : f.Low > -n
  · rw [qo (decide_eq_true c7)]
    by_cases c8 : f.High < n
    · rw [qo (decide_eq_true c8), if_pos ⟨c7, c8⟩]; rfl
    · rw [qm (decide_eq_false c8), if_neg fun q => c8 q.2]; rfl
  · rw [qm (decide_eq_false c7), if_neg fun q => c7 q.1]; rfl
theorem aqN (F : Sq qB) {l : Sq rW} (ln : l.n ≤ 1000) (h : ∀ j, j < l.n → NdOK (l.f j)) : ∃ r, Jb F l = some r ∧ r.n = l.n ∧ ∀ j, j < l.n → r.f j = fedV F (l.f j) := by
  obtain ⟨z, hz, y, rfl, yn, yf⟩ := pY (step := fun v : Sq Int × Int => Jc F l v.1 v.2)
    (fun v => ∃ k : Nat, v.2 = k ∧ k ≤ l.n ∧ v.1.n = l.n ∧ ∀ j, j < k → v.1.f j = fedV F (l.f j)) (fun v => l.n - v.2.toNat)
    (fun z => ∃ y, z = .inl y ∧ y.n = l.n ∧ ∀ j, j < l.n → y.f j = fedV F (l.f j)) (fun v hv => by
      obtain ⟨o, x⟩ := v
      obtain ⟨k, h1, hk, hl, hf⟩ := hv
      dsimp only at h1 hl hf ⊢
      subst h1
      unfold Jc
      rcases Nat.lt_or_ge k l.n with hi | hi
      · obtain ⟨n0, n1⟩ := h k hi
        have dn : l.n - (wr ((k : Int) + 1)).toNat < l.n - (k : Int).toNat := by rw [qc (by omega)]; omega
        rw [qo (dlt hi), qo (dix hi), qo (dix (by omega)), pI, get_bind (aqn _ _)]
        by_cases c : 0 ≤ (l.f k).Road ∧ (l.f k).Road < F.n
        · rw [qo (decide_eq_true c), qo (decide_eq_true c), get_bind (aqB _ n0 n1), qo (dix (by omega))]
          refine ⟨_, rfl, ⟨k + 1, qc (by omega), hi, hl, fun j hj => ?_⟩, dn⟩
          dsimp only
          by_cases q : j = k
          · rw [ajw q, q]; unfold fedV; rw [if_neg (show ¬ ¬ (0 ≤ (l.f k).Road ∧ (l.f k).Road < F.n) from fun w => w c)]; rfl
          · rw [ajM q]; exact hf j (by omega)
        · rw [qm (decide_eq_false c)]
          refine ⟨_, rfl, ⟨k + 1, qc (by omega), hi, hl, fun j hj => ?_⟩, dn⟩
          dsimp only
          by_cases q : j = k
          · rw [ajw q, q]; unfold fedV; rw [if_pos (show ¬ (0 ≤ (l.f k).Road ∧ (l.f k).Road < F.n) from c)]; rfl
          · rw [ajM q]; exact hf j (by omega)
      · obtain rfl : k = l.n := by omega
        rw [qm (dge (by omega))]
        exact ⟨_, rfl, _, rfl, hl, hf⟩)
    (⟨l.n, fun _ => 0⟩, 0) ⟨0, rfl, Nat.zero_le _, rfl, fun j hj => absurd hj (Nat.not_lt_zero _)⟩
  rw [ahg]; unfold VU
  rw [qo (decide_eq_true ⟨by omega, by omega, by omega, by omega⟩), pI, pV (by rw [afs]; exact hz)]
  exact ⟨y, rfl, yn, yf⟩
def s9 : Sq qG := ⟨1, fun _ => ⟨0, 3, 0, 0, 0, 0, 0, 9⟩⟩
def m9 : Sq qE := ⟨2, fun k => ⟨cond (Nat.beq k 0) 0 0, cond (Nat.beq k 0) 0 0, ⟨cond (Nat.beq k 0) 55 70, cond (Nat.beq k 0) 70 80⟩⟩⟩
def f9 : Sq qB := ⟨1, fun _ => ⟨40, 60⟩⟩
theorem arx {x : qE} (h : x.Sensor = 0) : Tgt f9.n s9 x := by
  unfold Tgt
  rw [h]
  exact ⟨by decide, by decide, rfl, by decide, by decide⟩
theorem arQ : SnOK (s9.f 0) := by
  show SnOK ⟨0, 3, 0, 0, 0, 0, 0, 9⟩
  unfold SnOK
  decide
theorem m9_b (v : Int) : (trun f9 s9 m9 1 m9.n).b v ↔ v = 0 := by
  have a0 : atF (s9.f (m9.f 0).Sensor.toNat) (m9.f 0) 1 = ⟨55, 70⟩ := by
    have sy : Says (s9.f (m9.f 0).Sensor.toNat) (m9.f 0) 1 := ⟨arQ, by decide, by decide, by decide, by decide⟩
    unfold atF
    rw [if_pos sy]; rfl
  have a1 : atF (s9.f (m9.f 1).Sensor.toNat) (m9.f 1) 1 = ⟨70, 80⟩ := by
    have sy : Says (s9.f (m9.f 1).Sensor.toNat) (m9.f 1) 1 := ⟨arQ, by decide, by decide, by decide, by decide⟩
    unfold atF
    rw [if_pos sy]; rfl
  have t1 := aqJ (F := f9) (l := s9) (m := m9) (t := 1) (k := 0) (r := 0) (y := (⟨55, 60⟩, true)) rfl rfl (by rw [a0]; rfl) (arx rfl) rfl
  have t2 := aqJ (F := f9) (l := s9) (m := m9) (t := 1) (k := 1) (r := 0) (y := (noS, false)) rfl rfl (by rw [a1, t1]; rfl) (arx rfl) (by rw [t1]; rfl)
  show (trun f9 s9 m9 1 (1 + 1)).b v ↔ v = 0
  rw [t2, t1]
  dsimp only
  show (((False ∨ ((true = false) ∧ v = (m9.f 0).Sensor)) ∨ ((false = false) ∧ v = (m9.f 1).Sensor)) ↔ v = 0)
  have e : (m9.f 1).Sensor = 0 := rfl
  rw [e]
  simp
theorem arF : rD = some true := by
  obtain ⟨l, el, hl⟩ := aqv aqC (by decide) (by decide)
  have ln : l.n = 1 := hl.nn
  have l0 : l.f 0 = ⟨30, 30⟩ := by
    rw [hl.e 0 (by decide)]; unfold anaF
    rw [arn, if_pos rfl]; exact arA
  obtain ⟨O, B, et, ht⟩ := aqw (F := f9) (l := s9) (m := m9) (t := 1) (by decide) (by decide) fun i hi _ => by
    have hi : i < 2 := hi
    rcases (show i = 0 ∨ i = 1 by omega) with q | q <;> subst q <;> unfold MsOK <;> decide
  have On : O.n = 1 := ht.nn
  have b0 : In B 0 := (ht.i 0).2 ((m9_b 0).2 rfl)
  have bz : ∀ v, In B v → v = 0 := fun v hv => (m9_b v).1 ((ht.i v).1 hv)
  have Bn : B.n = 1 := by
    obtain ⟨j, hj, _⟩ := b0
    rcases Nat.lt_or_ge 1 B.n with c | c
    · have := ht.up 0 1 (by omega) c
      have e0 := bz _ ⟨0, by omega, rfl⟩
      have e1 := bz _ ⟨1, by omega, rfl⟩
      omega
    · omega
  have es : Gd l ⟨1, fun _ => ⟨30, 30⟩⟩ = some true := alH (by omega) ln fun j hj => by
    obtain rfl : j = 0 := by omega
    exact l0
  have eb : Gc B ⟨1, fun _ => 0⟩ = some true := aqE (by omega) Bn fun j hj => bz _ ⟨j, hj, rfl⟩
  obtain ⟨r, er, rn, rf⟩ := aqN l (l := ⟨1, fun _ => ⟨0, 31⟩⟩) (by decide) fun j _ => (⟨by decide, by decide⟩ : NdOK ⟨0, 31⟩)
  have ef : Gc r ⟨1, fun _ => -1⟩ = some true := by
    have rn : r.n = 1 := rn
    refine aqE (by omega) rn fun j hj => ?_
    obtain rfl : j = 0 := by omega
    rw [rf 0 (by decide)]
    unfold fedV
    rw [ln, show (l.f (Int.toNat (rW.mk 0 31).Road)) = ⟨30, 30⟩ from l0]
    rfl
  rw [ahq]; unfold WB
  refine (get_bind el).trans ?_
  refine (get_bind et).trans ?_
  dsimp only
  rw [qo (show ((0 : Int) == 0) = true from rfl), get_bind es, qo rfl, qo (by rw [On]; rfl), get_bind eb, qo rfl, qo (decide_eq_true ⟨by omega, by omega⟩), get_bind (aqs _), l0, qo (by rfl)]
  refine (get_bind er).trans ?_
  rw [get_bind ef]; rfl
end Go.Proofs.YtimkpfnbkclclaaGreat.Ab
namespace Go.Proofs.YtimkpfnbkclclaaGreat.Ab
noncomputable section
open Go
attribute [local irreducible] arun
def BO (u12_0 : Int) (_u12_1 : Sq qA) (u12_3 : Sq qC) (_u12_5 : Sq SFan) (_u12_6 : Sq qD) (u12_7 : Sq qB) (u12_8 u12_9 u12_10 : Int) : DT (LR (Int × Int × Int) (Int × Int) (Unit)) :=
 .ite (decide (u12_8 < ((u12_3.n : Nat) : Int))) (
 .ite (decide ((0 : Int) ≤ u12_8 ∧ u12_8 < ((u12_3.n : Nat) : Int))) (
 .ite ((u12_3.f (Int.toNat u12_8)).From == u12_0) (
 .ite (decide ((0 : Int) ≤ u12_8 ∧ u12_8 < ((u12_7.n : Nat) : Int))) (
 .ite (decide ((0 : Int) ≤ u12_8 ∧ u12_8 < ((u12_7.n : Nat) : Int))) (
 .ite ((u12_3.f (Int.toNat u12_8)).To == u12_0) (
 .ite (decide ((0 : Int) ≤ u12_8 ∧ u12_8 < ((u12_7.n : Nat) : Int))) (
 .ite (decide ((0 : Int) ≤ u12_8 ∧ u12_8 < ((u12_7.n : Nat) : Int))) (
 .leaf (.next ((wr (u12_8 + (1 : Int))), (wr ((wr (u12_9 + (u12_7.f (Int.toNat u12_8)).Low)) - (u12_7.f (Int.toNat u12_8)).High)), (wr ((wr (u12_10 + (u12_7.f (Int.toNat u12_8)).High)) - (u12_7.f (Int.toNat u12_8)).Low))))) (
 .fail)) (
 .fail)) (
 .leaf (.next ((wr (u12_8 + (1 : Int))), (wr (u12_9 + (u12_7.f (Int.toNat u12_8)).Low)), (wr (u12_10 + (u12_7.f (Int.toNat u12_8)).High)))))) (
 .fail)) (
 .fail)) (
 .ite ((u12_3.f (Int.toNat u12_8)).To == u12_0) (
 .ite (decide ((0 : Int) ≤ u12_8 ∧ u12_8 < ((u12_7.n : Nat) : Int))) (
 .ite (decide ((0 : Int) ≤ u12_8 ∧ u12_8 < ((u12_7.n : Nat) : Int))) (
 .leaf (.next ((wr (u12_8 + (1 : Int))), (wr (u12_9 - (u12_7.f (Int.toNat u12_8)).High)), (wr (u12_10 - (u12_7.f (Int.toNat u12_8)).Low))))) (
 .fail)) (
 .fail)) (
 .leaf (.next ((wr (u12_8 + (1 : Int))), u12_9, u12_10))))) (
 .fail)) (
 .leaf (.l (u12_9, u12_10)))
def tL : LpM := ⟨Int × (Sq qA) × (Sq qC) × (Sq SFan) × (Sq qD) × (Sq qB), Int × Int × Int, Int × Int, Unit, fun p => ⟨[(4, .ptr 640 0), (7, .own 1152 0), (9, .int .i64 p.1.1), (11, .ptr 3264 0), (41, sqA 2 qA.enc p.1.2.1), (42, .int .i64 ((p.1.2.1.n : Nat) : Int)), (43, .int .i64 p.1.1), (53, sqA 10 qC.enc p.1.2.2.1), (54, .int .i64 ((p.1.2.2.1.n : Nat) : Int)), (55, .int .i64 p.2.1)], [(640, .var [sqA 2 qA.enc p.1.2.1, sqA 10 qC.enc p.1.2.2.1, sqA 4 SFan.enc p.1.2.2.2.1, sqA 3 qD.enc p.1.2.2.2.2.1]), (1152, rowA 0 2 51 qB.enc p.1.2.2.2.2.2), (3264, .var [.int .i64 p.2.2.1, .int .i64 p.2.2.2])], 3712⟩, fun f v => BO f.1 f.2.1 f.2.2.1 f.2.2.2.1 f.2.2.2.2.1 f.2.2.2.2.2 v.1 v.2.1 v.2.2, true, (.exit 2), (fun x a => ⟨[(4, .ptr 640 0), (7, .own 1152 0), (11, .ptr 3264 0), (41, aget x.tm 41), (42, aget x.tm 42), (43, aget x.tm 43)], [(640, blkS x 640), (1152, blkS x 1152), (3264, .var [.int .i64 a.1, .int .i64 a.2])], 3712⟩), .ret, (fun _ _ => ⟨[], [], 0⟩), c1, c1k⟩
def E9 (u12_0 : Int) (u12_1 : Sq qA) (u12_3 : Sq qC) (u12_5 : Sq SFan) (u12_6 : Sq qD) (u12_7 : Sq qB) (u12_8 u12_9 u12_10 : Int) : Option ((Int × Int) ⊕ (Unit)) := tL.val ((u12_0, u12_1, u12_3, u12_5, u12_6, u12_7), (u12_8, u12_9, u12_10))
theorem abJ (u12_0 : Int) (u12_1 : Sq qA) (u12_3 : Sq qC) (u12_5 : Sq SFan) (u12_6 : Sq qD) (u12_7 : Sq qB) (u12_8 u12_9 u12_10 : Int) : E9 u12_0 u12_1 u12_3 u12_5 u12_6 u12_7 u12_8 u12_9 u12_10 = fixO (fun v : Int × Int × Int => BO u12_0 u12_1 u12_3 u12_5 u12_6 u12_7 v.1 v.2.1 v.2.2) (u12_8, u12_9, u12_10) := tL.val_eq (fun x => ((intA (aget x.tm 9), sqD qA.dec (aget x.tm 41), sqD qC.dec (aget x.tm 53), sqD SFan.dec (cellS x 640 2), sqD qD.dec (cellS x 640 3), sqB qB.dec (blkS x 1152)), (intA (aget x.tm 55), intA (cellS x 3264 0), intA (cellS x 3264 1)))) (fun p => by kernel_rfl) ((u12_0, u12_1, u12_3, u12_5, u12_6, u12_7), (u12_8, u12_9, u12_10))
def Cq (u7_0 : Sq qA) (u7_2 : Sq qC) (u7_3 : Sq SFan) (u7_4 : Sq qD) (u7_5 : Sq qB) (u7_6 : Int) : DT (LR (Int) (Unit) (Unit)) :=
 .ite (decide (u7_6 < ((u7_0.n : Nat) : Int))) (
 .ite (decide ((0 : Int) ≤ u7_6 ∧ u7_6 < ((u7_0.n : Nat) : Int))) (
 .ite (u7_0.f (Int.toNat u7_6)).Surface (
 .leaf (.next (wr (u7_6 + (1 : Int))))) (
 .sum (E9 u7_6 u7_0 u7_2 u7_3 u7_4 u7_5 (0 : Int) (0 : Int) (0 : Int)) (fun y0 =>
 .ite (decide (y0.1 > (0 : Int))) (
 .leaf (.r ())) (
 .ite (decide (y0.2 < (0 : Int))) (
 .leaf (.r ())) (
 .leaf (.next (wr (u7_6 + (1 : Int))))))) (fun _ => .fail))) (
 .fail)) (
 .leaf (.l ()))
def uz : LpM := ⟨(Sq qA) × (Sq qC) × (Sq SFan) × (Sq qD) × (Sq qB), Int, Unit, Unit, fun p => ⟨[(4, .ptr 640 0), (7, .own 1152 0), (41, sqA 2 qA.enc p.1.1), (42, .int .i64 ((p.1.1.n : Nat) : Int)), (43, .int .i64 p.2)], [(640, .var [sqA 2 qA.enc p.1.1, sqA 10 qC.enc p.1.2.1, sqA 4 SFan.enc p.1.2.2.1, sqA 3 qD.enc p.1.2.2.2.1]), (1152, rowA 0 2 51 qB.enc p.1.2.2.2.2)], 2624⟩, fun f v => Cq f.1 f.2.1 f.2.2.1 f.2.2.2.1 f.2.2.2.2 v, false, (.exit 0), (fun x _ => ⟨[(2, .undef)], [(640, blkS x 640), (1152, blkS x 1152)], 2624⟩), .ret, (fun x _ => ⟨[(2, .bool false)], [(640, blkS x 640), (1152, blkS x 1152)], 2624⟩), c1, c1k⟩
def FT (u7_0 : Sq qA) (u7_2 : Sq qC) (u7_3 : Sq SFan) (u7_4 : Sq qD) (u7_5 : Sq qB) (u7_6 : Int) : Option ((Unit) ⊕ (Unit)) := uz.val ((u7_0, u7_2, u7_3, u7_4, u7_5), u7_6)
theorem abX (u7_0 : Sq qA) (u7_2 : Sq qC) (u7_3 : Sq SFan) (u7_4 : Sq qD) (u7_5 : Sq qB) (u7_6 : Int) : FT u7_0 u7_2 u7_3 u7_4 u7_5 u7_6 = fixO (fun v : Int => Cq u7_0 u7_2 u7_3 u7_4 u7_5 v) u7_6 := uz.val_eq (fun x => ((sqD qA.dec (aget x.tm 41), sqD qC.dec (cellS x 640 1), sqD SFan.dec (cellS x 640 2), sqD qD.dec (cellS x 640 3), sqB qB.dec (blkS x 1152)), intA (aget x.tm 43))) (fun p => by kernel_rfl) ((u7_0, u7_2, u7_3, u7_4, u7_5), u7_6)
def GN (codes : Sq Int) : DT (Bool) :=
 .bind (New codes) fun z0 =>
 .bind (F7 z0) fun z1 =>
 .bind (Cc z1.1 z1.2.1) fun z2 =>
 .ite (z2.2 != (0 : Int)) (
 .leaf false) (
 .ite (((z2.1.n : Nat) : Int) != ((z1.1.Mine.Roads.n : Nat) : Int)) (
 .leaf false) (
 .sum (FT z1.1.Mine.Places z1.1.Mine.Roads z1.1.Fans z1.1.Doors z2.1 (0 : Int)) (fun _ =>
 .bind (rD) fun z3 =>
 .leaf z3) (fun _ => .leaf false)))
def rH : FnM := flM ((Sq Int)) (Bool) (fun p => ([sqA 1 (eI .u8) p], [])) (fun p => GN p) (fun r => .bool r) (fun _ => rfl)
def E8 : Env := envM [(9, ZK.c), (10, uT.c), (12, rQ.c), (15, su.c)] [(12, [4, 7, 9, 11, 41, 42, 43, 53, 54, 55], [4, 7, 11, 41, 42, 43]), (7, [4, 7, 41, 42, 43], [2])] [(12, tL.c), (7, uz.c)] [(3, [.freeze 320, .freeze 321, .freeze 322, .freeze 323, .freeze 324, .freeze 325])] [(12, [640, 1152, 3264]), (7, [640, 1152])] 0
def GL : Env := { E8 with nt := 115 }
theorem Ht : aQ GL (qd 12 Tryz.f8) tL.c := tL.tells 3712 (fun _ => by kernel_rfl) (fun _ _ _ _ => by kernel_rfl) (fun _ _ _ _ => by kernel_rfl) fun R f v N K => by kernel_rfl
theorem IV : aQ GL (qd 7 Tryz.f8) uz.c := uz.tells 2624 (fun _ => by kernel_rfl) (fun _ _ _ _ => by kernel_rfl) (fun _ _ _ _ => by kernel_rfl) fun R f v N K => by kernel_rfl
theorem abY : aI Tryz.prog 8 rH.c := rH.tells Tryz.func8 (show ∀ p, arun E8 Tryz.f8 (rH.enc p).1 (rH.enc p).2 = _ from fun p => by kernel_rfl) (qg [qd 7 Tryz.f8, qd 12 Tryz.f8] (by kernel_rfl) ⟨lpT (by kernel_rfl) IV, ⟨lpT (by kernel_rfl) Ht, trivial⟩⟩) (.cons LC (.cons xZ (.cons yj (.cons wN .nil))))
theorem ac9 : ∀ a b, rH.enc a = rH.enc b → a = b := linj (fun x => sqD dI (gd x.1 0)) (fun p => by kernel_rfl)
end
end Go.Proofs.YtimkpfnbkclclaaGreat.Ab
namespace Go.Proofs.YtimkpfnbkclclaaGreat.Ab
open Go
theorem aoH {r : Sq Int} (ok : akl r) {s0 s : Int} (h0 : 0 ≤ s0) (h1 : s0 < r.n) (h : s = s0 ∨ s = -1) : (rsS r s).Low ≤ (rsS r s0).Low ∧ (rsS r s0).Low ≤ (rsS r s).High := by
  have e : rsS r s0 = ⟨r.f s0.toNat, r.f s0.toNat⟩ := if_pos h0
  rcases h with rfl | rfl
  · rw [e]; exact ⟨Int.le_refl _, Int.le_refl _⟩
  · have e1 : rsS r (-1) = ⟨r.f (r.n - 1), r.f 0⟩ := if_neg (by omega)
    have n0 := ok.n0
    have a := ok.dec (r.n - 1 - s0.toNat) s0.toNat (by omega)
    have b := ok.dec s0.toNat 0 (by omega)
    rw [show s0.toNat + (r.n - 1 - s0.toNat) = r.n - 1 by omega] at a
    rw [Nat.zero_add] at b
    rw [e, e1]
    exact ⟨a, b⟩
theorem aoL {f : SFan} (ok : okC f.Curve) {s0 s : Int} (h0 : 0 ≤ s0) (h1 : s0 ≤ 2) (h : s = s0 ∨ s = -1) (x : Int) : (stS f s x).Low ≤ (stS f s0 x).Low ∧ (stS f s0 x).Low ≤ (stS f s x).High := by
  have a := akK ok f.Back x
  have b := akK ok (!f.Back) x
  rcases h with rfl | rfl
  · refine ⟨Int.le_refl _, ?_⟩
    unfold stS
    split
    · exact Int.le_refl _
    · rw [show (if s = 1 then ai3 f.Curve f.Back x else if s = 2 then ai3 f.Curve (!f.Back) x else _) = if s = 1 then ai3 f.Curve f.Back x else ai3 f.Curve (!f.Back) x from by
        split
        · rfl
        · rw [if_pos (by omega)]]
      split <;> omega
  · have e : stS f (-1) x = ⟨minI (minI 0 (ai3 f.Curve f.Back x).Low) (ai3 f.Curve (!f.Back) x).Low, maxI (maxI 0 (ai3 f.Curve f.Back x).High) (ai3 f.Curve (!f.Back) x).High⟩ := by
      unfold stS
      rw [if_neg (by omega), if_neg (by omega), if_neg (by omega)]
    rw [e]
    have l : (stS f s0 x).Low = 0 ∨ (stS f s0 x).Low = (ai3 f.Curve f.Back x).Low ∨ (stS f s0 x).Low = (ai3 f.Curve (!f.Back) x).Low := by
      unfold stS
      by_cases c0 : s0 = 0
      · rw [if_pos c0]; exact .inl rfl
      · rw [if_neg c0]
        by_cases c1 : s0 = 1
        · rw [if_pos c1]; exact .inr (.inl rfl)
        · rw [if_neg c1, if_pos (by omega)]; exact .inr (.inr rfl)
    dsimp only
    unfold minI maxI
    constructor
    all_goals (repeat' split)
    all_goals omega
theorem anJ {D : Sq qD} {s0 s : Sq Int} {nr : Nat} (h : DsD D s0 nr) (hd : DbD s0 s) (road : Int) {b : Int × Int} {c : Int} (h1 : b.1 ≤ c) (h2 : c ≤ b.2) : ∀ k, k ≤ D.n → (rsum D s road b k).1 ≤ (rsum D s0 road (c, 0) k).1 ∧ (rsum D s0 road (c, 0) k).1 ≤ (rsum D s road b k).2 := by
  have hn := h.n
  intro k
  induction k with
  | zero => intro _; exact ⟨h1, h2⟩
  | succ k ih =>
    intro hk
    have i := ih (by omega)
    obtain ⟨d1, d2, d3⟩ := h.f k (by omega)
    have q := aoH (d1.c.ok d1.n0 d1.n1) d2 d3 (hd.f k (by omega))
    unfold rsum
    split
    · dsimp only; omega
    · exact i
theorem anx {F : Sq SFan} {s0 s : Sq Int} {nr : Nat} (h : FsD F s0 nr) (hd : DbD s0 s) (road x : Int) (b b' : Int × Int) : ∀ k, k ≤ F.n → (fsum F s road x b k).1 - b.1 ≤ (fsum F s0 road x b' k).2 - b'.2 ∧ (fsum F s0 road x b' k).2 - b'.2 ≤ (fsum F s road x b k).2 - b.2 := by
  have hn := h.n
  intro k
  induction k with
  | zero => intro _; show b.1 - b.1 ≤ b'.2 - b'.2 ∧ b'.2 - b'.2 ≤ b.2 - b.2; omega
  | succ k ih =>
    intro hk
    have i := ih (by omega)
    obtain ⟨d1, d2, d3⟩ := h.f k (by omega)
    have q := aoL (d1.c.ok d1.n) d2 d3 (hd.f k (by omega)) x
    unfold fsum
    split
    · dsimp only; omega
    · exact i
theorem apV {lo hi B x : Int} (h1 : lo ≤ B) (h2 : B ≤ hi) : (sqS lo hi x).1 ≤ sgn B x ∧ sgn B x ≤ (sqS lo hi x).2 := by
  have hx : 0 ≤ x * x := by
    rcases Int.le_total 0 x with h | h
    · exact Int.mul_nonneg h h
    · exact Int.mul_nonneg_of_nonpos_of_nonpos h h
  have a := Int.mul_le_mul_of_nonneg_right h1 hx
  have b := Int.mul_le_mul_of_nonneg_right h2 hx
  unfold sqS sgn
  split
  · dsimp only; omega
  · dsimp only; omega
theorem MdD.fits {a : SAir} {s : qz} {x : yV} (h : MdD a s x) {j : Nat} (hj : j < a.Mine.Roads.n) :
    (aiS a s j (x.Flows.f j)).1 ≤ x.Pressures.f (a.Mine.Roads.f j).From.toNat - x.Pressures.f (a.Mine.Roads.f j).To.toNat ∧ x.Pressures.f (a.Mine.Roads.f j).From.toNat - x.Pressures.f (a.Mine.Roads.f j).To.toNat ≤ (aiS a s j (x.Flows.f j)).2 := by
  obtain ⟨sh, s0, _, _, _, _, _, hE, dF, dD, hL⟩ := h.e
  obtain ⟨re, u, v, r0, r1, u0, _, v0, _, e⟩ := (hL j hj).e
  have m1 := anJ hE.d dD j (b := ((a.Mine.Roads.f j).Rest.Low, (a.Mine.Roads.f j).Rest.High)) (c := re) r0 r1 a.Doors.n (Nat.le_refl _)
  have m2 := apV (x := x.Flows.f j) m1.1 m1.2
  unfold aiS
  dsimp only
  rw [e]
  dsimp only
  generalize rsum a.Doors s.Doors j ((a.Mine.Roads.f j).Rest.Low, (a.Mine.Roads.f j).Rest.High) a.Doors.n = b at m2 ⊢
  generalize sgn (rsum a.Doors s0.Doors j (re, 0) a.Doors.n).1 (x.Flows.f j) = g at m2 ⊢
  generalize x.Pressures.f (a.Mine.Roads.f j).From.toNat - x.Pressures.f (a.Mine.Roads.f j).To.toNat = d
  have m3 := anx hE.f dF j (x.Flows.f j) ((sqS b.1 b.2 (x.Flows.f j)).1 - ((fsum a.Fans s0.Fans j (x.Flows.f j) (0, g - d) a.Fans.n).2 + v), (sqS b.1 b.2 (x.Flows.f j)).2 - ((fsum a.Fans s0.Fans j (x.Flows.f j) (0, g - d) a.Fans.n).2 - u)) (0, g - d) a.Fans.n (Nat.le_refl _)
  dsimp only at m3
  omega
end Go.Proofs.YtimkpfnbkclclaaGreat.Ab
namespace Go.Proofs.YtimkpfnbkclclaaGreat.Ab
noncomputable section
open Go
def gW (l : Sq Int) (m : Int) (i : Nat) : Option Unit := if -m ≤ l.f i ∧ l.f i ≤ m then none else some ()
def aqb (P : Sq qA) (p : Sq Int) (i : Nat) : Prop := (P.f i).Surface = true → p.f i = 0
def sumP (P : Sq qA) (R : Sq qC) (q : Sq Int) (i : Nat) : Prop := (P.f i).Surface = false → net R q i R.n = 0
def aqf (a : SAir) (s : qz) (x : yV) (j : Nat) : Prop := ((a.Mine.Roads.f j).Closed = true → x.Flows.f j = 0) ∧ ((a.Mine.Roads.f j).Closed = false →
  (aiS a s j (x.Flows.f j)).1 ≤ x.Pressures.f (a.Mine.Roads.f j).From.toNat - x.Pressures.f (a.Mine.Roads.f j).To.toNat ∧ x.Pressures.f (a.Mine.Roads.f j).From.toNat - x.Pressures.f (a.Mine.Roads.f j).To.toNat ≤ (aiS a s j (x.Flows.f j)).2)
open Classical in
def apj (a : SAir) (s : qz) (x : yV) : Int :=
  if airE a ≠ 0 then airE a else if aiR a s = false then 21 else if x.Pressures.n ≠ a.Mine.Places.n then 11 else if x.Flows.n ≠ a.Mine.Roads.n then 11
  else if bn (gW x.Pressures 70368744177664) x.Pressures.n 0 ≠ none then 1 else if bn (gW x.Flows 1048576) x.Flows.n 0 ≠ none then 1
  else if (∀ i, i < a.Mine.Places.n → aqb a.Mine.Places x.Pressures i) ∧ (∀ j, j < a.Mine.Roads.n → aqf a s x j) ∧ ∀ i, i < a.Mine.Places.n → sumP a.Mine.Places a.Mine.Roads x.Flows i then 0 else 10
theorem apl {l : Sq Int} {m : Int} (h : bn (gW l m) l.n 0 = none) : ∀ i, i < l.n → -m ≤ l.f i ∧ l.f i ≤ m := by
  intro i hi
  have := oh h i (Nat.zero_le _) (by omega)
  unfold gW at this
  split at this
  · assumption
  · cases this
theorem MdD.zero {a : SAir} {s : qz} {x : yV} (h : MdD a s x) : apj a s x = 0 := by
  obtain ⟨sh, s0, _, _, hP, hp, hq, hE, _⟩ := h.e
  have hqn := hq.qn
  have hpn := hp.nn
  unfold apj
  rw [if_neg (not_not_intro (hE.air h.mine)), if_neg (by rw [h.right]; simp), if_neg (not_not_intro hpn), if_neg (not_not_intro hqn), oL fun i _ hi => ?_, if_neg (not_not_intro rfl), oL fun i _ hi => ?_, if_neg (not_not_intro rfl), if_pos]
  · refine ⟨fun i hi c => ?_, fun j hj => ⟨fun c => ?_, fun _ => h.fits hj⟩, fun i hi c => ?_⟩
    · rw [(hP.f i hi).1] at c
      exact hp.z i (Nat.le_of_ble_eq_true c)
    · exact (hq.r j hj).z c
    · rw [(hP.f i hi).1] at c
      refine hq.e i ?_ hi
      by_cases d : i < sh
      · rw [ajf d] at c; cases c
      · omega
  · unfold gW
    have := (hq.r i (by omega)).q0
    have := (hq.r i (by omega)).q1
    rw [if_pos (by omega)]
  · unfold gW
    have := hp.f i (by omega)
    rw [if_pos (by omega)]
theorem MdD.fit {a : SAir} {s : qz} {x : yV} (h : MdD a s x) : aot a s x.Pressures x.Flows := by
  have z := h.zero
  unfold apj at z
  split at z
  · rename_i c; exact absurd z c
  · split at z
    · cases z
    · split at z
      · cases z
      · split at z
        · cases z
        · rename_i h4
          split at z
          · cases z
          · split at z
            · cases z
            · rename_i h6
              have qb := apl (Classical.not_not.1 h6)
              split at z
              · rename_i q
                exact ⟨fun i hi e => q.1 i hi e, fun j hj e => (q.2.1 j hj).2 e, fun j hj e => (q.2.1 j hj).1 e, fun j hj => qb j (by omega), fun i hi e => q.2.2 i hi e⟩
              · cases z
end
end Go.Proofs.YtimkpfnbkclclaaGreat.Ab
namespace Go.Proofs.YtimkpfnbkclclaaGreat.Ab
open Go
structure PlS (a : SAir) (q : Sq Int) (i : Int) (k : Nat) (lo hi : Int) : Prop where
  b : -(2251799813685248 * (k : Int)) ≤ lo ∧ hi ≤ 2251799813685248 * (k : Int)
  l : lo ≤ net a.Mine.Roads q i k
  h : net a.Mine.Roads q i k ≤ hi
theorem PlS.mid {a : SAir} {q : Sq Int} {i : Int} {k : Nat} {lo hi : Int} (h : PlS a q i k lo hi) : lo ≤ hi := Int.le_trans h.l h.h
theorem asA {a : SAir} {s : qz} (rt : aiR a s = true) {j : Nat} (hj : j < a.Mine.Roads.n) : -1125899906842624 ≤ (anaF a s j).Low ∧ (anaF a s j).High ≤ 1125899906842624 := by
  have ok := aiU rt
  unfold anaF
  split
  · unfold ajN
    split
    · exact ⟨by decide, by decide⟩
    · split
      · have h1 := amU ok hj ((ai6 a s).1.Low.f (a.Mine.Roads.f j).From.toNat - (ai6 a s).1.High.f (a.Mine.Roads.f j).To.toNat)
        have h2 := amU ok hj ((ai6 a s).1.High.f (a.Mine.Roads.f j).From.toNat - (ai6 a s).1.Low.f (a.Mine.Roads.f j).To.toNat)
        dsimp only
        omega
      · exact ⟨by decide, by decide⟩
  · split
    · exact ⟨by decide, by decide⟩
    · exact ⟨by decide, by decide⟩
theorem ar8 (codes : Sq Int) (hb : ∀ k, 0 ≤ codes.f k ∧ codes.f k ≤ 255) : (GN codes).get = some true := by
  obtain ⟨c, e0, hc⟩ := aqk codes hb
  obtain ⟨a, s, x, b, e1, b0, b1, md⟩ := aos hc
  have np := md.np
  have nr := md.nr
  have n1 := md.n1
  have rt := md.right
  have fit := md.fit
  obtain ⟨l, el, hl⟩ := aqv rt (by omega) (by omega)
  have ln := hl.nn
  unfold GN
  rw [get_bind e0, get_bind e1]
  dsimp only
  rw [get_bind el, qm (show ((0 : Int) != 0) = false from rfl), qm (by rw [ln]; simp)]
  have sums : ∀ i : Nat, ∃ lo hi, E9 (i : Int) a.Mine.Places a.Mine.Roads a.Fans a.Doors l 0 0 0 = some (.inl (lo, hi)) ∧ PlS a x.Flows i a.Mine.Roads.n lo hi := fun i => by
    obtain ⟨z, hz, lo, hi, rfl, g⟩ := pY (step := fun v : Int × Int × Int => BO (i : Int) a.Mine.Places a.Mine.Roads a.Fans a.Doors l v.1 v.2.1 v.2.2)
      (fun v => ∃ k : Nat, v.1 = k ∧ k ≤ a.Mine.Roads.n ∧ PlS a x.Flows i k v.2.1 v.2.2) (fun v => a.Mine.Roads.n - v.1.toNat)
      (fun z => ∃ lo hi, z = .inl (lo, hi) ∧ PlS a x.Flows i a.Mine.Roads.n lo hi) (fun v hv => by
        obtain ⟨w, lo, hi⟩ := v
        obtain ⟨k, h1, hk, h⟩ := hv
        dsimp only at h1 h ⊢
        subst h1
        unfold BO
        rcases Nat.lt_or_ge k a.Mine.Roads.n with hi' | hi'
        · have md := h.mid
          obtain ⟨⟨c0, c1⟩, c2, c3⟩ := h
          obtain ⟨d0, d1⟩ := asA rt hi'
          obtain ⟨d2, d3⟩ := arZ fit hi'
          have ef := hl.e k hi'
          have ns := alc a.Mine.Roads x.Flows (i : Int) k
          have dn : a.Mine.Roads.n - (wr ((k : Int) + 1)).toNat < a.Mine.Roads.n - (k : Int).toNat := by rw [qc (by omega)]; omega
          rw [qo (dlt hi'), qo (dix hi'), pI, ef]
          by_cases f : (a.Mine.Roads.f k).From = i
          · rw [qo (by rw [f]; simp), qo (dix (by omega)), qo (dix (by omega))]
            rw [if_pos f] at ns
            by_cases g : (a.Mine.Roads.f k).To = i
            · rw [qo (by rw [g]; simp), qo (dix (by omega)), qo (dix (by omega))]
              rw [if_pos g] at ns
              refine ⟨_, rfl, ⟨k + 1, qc (by omega), hi', ?_⟩, dn⟩
              dsimp only
              rw [pJ (x := lo + (anaF a s k).Low) (by omega) (by omega), pJ (x := lo + (anaF a s k).Low - (anaF a s k).High) (by omega) (by omega), pJ (x := hi + (anaF a s k).High) (by omega) (by omega), pJ (x := hi + (anaF a s k).High - (anaF a s k).Low) (by omega) (by omega)]
              exact ⟨by omega, by omega, by omega⟩
            · rw [qm (by simpa using g)]
              rw [if_neg g] at ns
              refine ⟨_, rfl, ⟨k + 1, qc (by omega), hi', ?_⟩, dn⟩
              dsimp only
              rw [pJ (x := lo + (anaF a s k).Low) (by omega) (by omega), pJ (x := hi + (anaF a s k).High) (by omega) (by omega)]
              exact ⟨by omega, by omega, by omega⟩
          · rw [qm (by simpa using f)]
            rw [if_neg f] at ns
            by_cases g : (a.Mine.Roads.f k).To = i
            · rw [qo (by rw [g]; simp), qo (dix (by omega)), qo (dix (by omega))]
              rw [if_pos g] at ns
              refine ⟨_, rfl, ⟨k + 1, qc (by omega), hi', ?_⟩, dn⟩
              dsimp only
              rw [pJ (x := lo - (anaF a s k).High) (by omega) (by omega), pJ (x := hi - (anaF a s k).Low) (by omega) (by omega)]
              exact ⟨by omega, by omega, by omega⟩
            · rw [qm (by simpa using g)]
              rw [if_neg g] at ns
              refine ⟨_, rfl, ⟨k + 1, qc (by omega), hi', ?_⟩, dn⟩
              exact ⟨by dsimp only; omega, by dsimp only; omega, by dsimp only; omega⟩
        · obtain rfl : k = a.Mine.Roads.n := by omega
          rw [qm (dge (by omega))]
          exact ⟨_, rfl, _, _, rfl, h⟩)
      (0, 0, 0) ⟨0, rfl, Nat.zero_le _, ⟨by decide, by decide⟩, Int.le_refl _, Int.le_refl _⟩
    exact ⟨lo, hi, by rw [abJ]; exact hz, g⟩
  have key : FT a.Mine.Places a.Mine.Roads a.Fans a.Doors l 0 = some (.inl ()) := by
    rw [abX]
    refine (oM (step := fun v => Cq a.Mine.Places a.Mine.Roads a.Fans a.Doors l v) (n := a.Mine.Places.n) (fun _ => none) (fun i hi => ?_) ?_ a.Mine.Places.n 0 (Nat.zero_add _)).trans ?_
    · unfold Cq
      rw [qo (dlt hi), qo (dix hi), pI, qc (by omega)]
      cases hs : (a.Mine.Places.f i).Surface with
      | true => rw [qo rfl]; rfl
      | false =>
        obtain ⟨lo, hh, es, g⟩ := sums i
        have z := fit.nt i hi hs
        have g1 := g.l
        have g2 := g.h
        rw [z] at g1 g2
        rw [qm rfl, pV es]
        dsimp only [Sum.elim]
        rw [qm (decide_eq_false (by omega)), qm (decide_eq_false (by omega))]; rfl
    · unfold Cq
      rw [qm (dge (Nat.le_refl _))]; rfl
    · rw [oL fun _ _ _ => rfl]
  rw [pV key]
  dsimp only [Sum.elim]
  rw [get_bind arF]; rfl
end Go.Proofs.YtimkpfnbkclclaaGreat.Ab
