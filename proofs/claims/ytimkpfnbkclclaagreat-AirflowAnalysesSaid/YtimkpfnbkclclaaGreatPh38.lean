/- A part of the proof, what is needed of it. -/
import Derived.Test.YtimkpfnbkclclaaGreatPh09
import Derived.Test.YtimkpfnbkclclaaGreatPh11
import Derived.Test.YtimkpfnbkclclaaGreatPh24
import Derived.Test.YtimkpfnbkclclaaGreatPh25
import Derived.Test.YtimkpfnbkclclaaGreatPh26
import Derived.Test.YtimkpfnbkclclaaGreatPh27
import Derived.Test.YtimkpfnbkclclaaGreatPh28
import Derived.Test.YtimkpfnbkclclaaGreatPh37
namespace Go.Proofs.YtimkpfnbkclclaaGreat.Ab
open Go
def dirV (f : qB) : Int := if f.Low > f.High then 0 else if f.Low > 0 then 1 else if f.High < 0 then -1 else 0
theorem aqp (f : qB) : Nb f = some (decide (f.Low > f.High)) := by
  rw [agb]; rfl
theorem aqs (f : qB) : Di f = some (dirV f) := by
  rw [aef]; unfold Ja dirV
  rw [get_bind (aqp f)]
  by_cases c1 : f.Low > f.High
  · rw [qo (decide_eq_true c1), if_pos c1]; rfl
  rw [qm (decide_eq_false c1), if_neg c1]
  by_cases c2 : f.Low > 0
  · rw [qo (decide_eq_true c2), if_pos c2]; rfl
  rw [qm (decide_eq_false c2), if_neg c2]
  by_cases c3 : f.High < 0
  · rw [qo (decide_eq_true c3), if_pos c3]; rfl
  · rw [qm (decide_eq_false c3), if_neg c3]; rfl
def fedV (F : Sq qB) (x : rW) : Int :=
  if ¬ (0 ≤ x.Road ∧ x.Road < F.n) then 0 else if (F.f x.Road.toNat).Low > (F.f x.Road.toNat).High then 0
  else if x.Need ≤ 0 ∨ (F.f x.Road.toNat).Low ≥ x.Need ∨ (F.f x.Road.toNat).High ≤ -x.Need then 1
  else if (F.f x.Road.toNat).Low > -x.Need ∧ (F.f x.Road.toNat).High < x.Need then -1 else 0
def NdOK (x : rW) : Prop := -1099511627776 ≤ x.Need ∧ x.Need ≤ 1099511627776
theorem aqB (f : qB) {n : Int} (n0 : -1099511627776 ≤ n) (n1 : n ≤ 1099511627776) : Tg f n = some (if f.Low > f.High then 0 else if n ≤ 0 ∨ f.Low ≥ n ∨ f.High ≤ -n then 1 else if f.Low > -n ∧ f.High < n then -1 else 0) := by
  have w : wr (0 - n) = -n := by rw [pJ (by omega) (by omega)]; omega
  rw [aft]; unfold NZ
  rw [get_bind (aqp f)]
  by_cases c3 : f.Low > f.High
  · rw [qo (decide_eq_true c3), if_pos c3]; rfl
  rw [qm (decide_eq_false c3), if_neg c3]
  by_cases c4 : n ≤ 0
  · rw [qo (decide_eq_true c4), if_pos (.inl c4)]; rfl
  rw [qm (decide_eq_false c4)]
  by_cases c5 : f.Low ≥ n
  · rw [qo (decide_eq_true c5), if_pos (.inr (.inl c5))]; rfl
  rw [qm (decide_eq_false c5), w]
  by_cases c6 : f.High ≤ -n
  · rw [qo (decide_eq_true c6), if_pos (.inr (.inr c6))]; rfl
  rw [qm (decide_eq_false c6), if_neg (show ¬ (n ≤ 0 ∨ f.Low ≥ n ∨ f.High ≤ -n) by omega)]
  by_cases c7 : f.Low > -n
  · rw [qo (decide_eq_true c7)]
    by_cases c8 : f.High < n
    · rw [qo (decide_eq_true c8), if_pos ⟨c7, c8⟩]; rfl
    · rw [qm (decide_eq_false c8), if_neg fun q => c8 q.2]; rfl
  · rw [qm (decide_eq_false c7), if_neg fun q => c7 q.1]; rfl
theorem aqN (F : Sq qB) {l : Sq rW} (ln : l.n ≤ 1000) (h : ∀ j, j < l.n → NdOK (l.f j)) : ∃ r, Jb F l = some r ∧ r.n = l.n ∧ ∀ j, j < l.n → r.f j = fedV F (l.f j) := by
  obtain ⟨z, hz, y, rfl, yn, yf⟩ := pY (step := fun v : Sq Int × Int => Jc F l v.1 v.2)
    (fun v => ∃ k : Nat, v.2 = k ∧ k ≤ l.n ∧ v.1.n = l.n ∧ ∀ j, j < k → v.1.f j = fedV F (l.f j)) (fun v => l.n - v.2.toNat)
    (fun z => ∃ y, z = .inl y ∧ y.n = l.n ∧ ∀ j, j < l.n → y.f j = fedV F (l.f j)) (fun v hv => by
      obtain ⟨o, x⟩ := v
      obtain ⟨k, h1, hk, hl, hf⟩ := hv
      dsimp only at h1 hl hf ⊢
      subst h1
      unfold Jc
      rcases Nat.lt_or_ge k l.n with hi | hi
      · obtain ⟨n0, n1⟩ := h k hi
        have dn : l.n - (wr ((k : Int) + 1)).toNat < l.n - (k : Int).toNat := by rw [qc (by omega)]; omega
        rw [qo (dlt hi), qo (dix hi), qo (dix (by omega)), pI, get_bind (aqn _ _)]
        by_cases c : 0 ≤ (l.f k).Road ∧ (l.f k).Road < F.n
        · rw [qo (decide_eq_true c), qo (decide_eq_true c), get_bind (aqB _ n0 n1), qo (dix (by omega))]
          refine ⟨_, rfl, ⟨k + 1, qc (by omega), hi, hl, fun j hj => ?_⟩, dn⟩
          dsimp only
          by_cases q : j = k
          · rw [ajw q, q]; unfold fedV; rw [if_neg (show ¬ ¬ (0 ≤ (l.f k).Road ∧ (l.f k).Road < F.n) from fun w => w c)]; rfl
          · rw [ajM q]; exact hf j (by omega)
        · rw [qm (decide_eq_false c)]
          refine ⟨_, rfl, ⟨k + 1, qc (by omega), hi, hl, fun j hj => ?_⟩, dn⟩
          dsimp only
          by_cases q : j = k
          · rw [ajw q, q]; unfold fedV; rw [if_pos (show ¬ (0 ≤ (l.f k).Road ∧ (l.f k).Road < F.n) from c)]; rfl
          · rw [ajM q]; exact hf j (by omega)
      · obtain rfl : k = l.n := by omega
        rw [qm (dge (by omega))]
        exact ⟨_, rfl, _, rfl, hl, hf⟩)
    (⟨l.n, fun _ => 0⟩, 0) ⟨0, rfl, Nat.zero_le _, rfl, fun j hj => absurd hj (Nat.not_lt_zero _)⟩
  rw [ahg]; unfold VU
  rw [qo (decide_eq_true ⟨by omega, by omega, by omega, by omega⟩), pI, pV (by rw [afs]; exact hz)]
  exact ⟨y, rfl, yn, yf⟩
def s9 : Sq qG := ⟨1, fun _ => ⟨0, 3, 0, 0, 0, 0, 0, 9⟩⟩
def m9 : Sq qE := ⟨2, fun k => ⟨cond (Nat.beq k 0) 0 0, cond (Nat.beq k 0) 0 0, ⟨cond (Nat.beq k 0) 55 70, cond (Nat.beq k 0) 70 80⟩⟩⟩
def f9 : Sq qB := ⟨1, fun _ => ⟨40, 60⟩⟩
theorem arx {x : qE} (h : x.Sensor = 0) : Tgt f9.n s9 x := by
  unfold Tgt
  rw [h]
  exact ⟨by decide, by decide, rfl, by decide, by decide⟩
theorem arQ : SnOK (s9.f 0) := by
  show SnOK ⟨0, 3, 0, 0, 0, 0, 0, 9⟩
  unfold SnOK
  decide
theorem m9_b (v : Int) : (trun f9 s9 m9 1 m9.n).b v ↔ v = 0 := by
  have a0 : atF (s9.f (m9.f 0).Sensor.toNat) (m9.f 0) 1 = ⟨55, 70⟩ := by
    have sy : Says (s9.f (m9.f 0).Sensor.toNat) (m9.f 0) 1 := ⟨arQ, by decide, by decide, by decide, by decide⟩
    unfold atF
    rw [if_pos sy]; rfl
  have a1 : atF (s9.f (m9.f 1).Sensor.toNat) (m9.f 1) 1 = ⟨70, 80⟩ := by
    have sy : Says (s9.f (m9.f 1).Sensor.toNat) (m9.f 1) 1 := ⟨arQ, by decide, by decide, by decide, by decide⟩
    unfold atF
    rw [if_pos sy]; rfl
  have t1 := aqJ (F := f9) (l := s9) (m := m9) (t := 1) (k := 0) (r := 0) (y := (⟨55, 60⟩, true)) rfl rfl (by rw [a0]; rfl) (arx rfl) rfl
  have t2 := aqJ (F := f9) (l := s9) (m := m9) (t := 1) (k := 1) (r := 0) (y := (noS, false)) rfl rfl (by rw [a1, t1]; rfl) (arx rfl) (by rw [t1]; rfl)
  show (trun f9 s9 m9 1 (1 + 1)).b v ↔ v = 0
  rw [t2, t1]
  dsimp only
  show (((False ∨ ((true = false) ∧ v = (m9.f 0).Sensor)) ∨ ((false = false) ∧ v = (m9.f 1).Sensor)) ↔ v = 0)
  have e : (m9.f 1).Sensor = 0 := rfl
  rw [e]
  simp
theorem arF : rD = some true := by
  obtain ⟨l, el, hl⟩ := aqv aqC (by decide) (by decide)
  have ln : l.n = 1 := hl.nn
  have l0 : l.f 0 = ⟨30, 30⟩ := by
    rw [hl.e 0 (by decide)]; unfold anaF
    rw [arn, if_pos rfl]; exact arA
  obtain ⟨O, B, et, ht⟩ := aqw (F := f9) (l := s9) (m := m9) (t := 1) (by decide) (by decide) fun i hi _ => by
    have hi : i < 2 := hi
    rcases (show i = 0 ∨ i = 1 by omega) with q | q <;> subst q <;> unfold MsOK <;> decide
  have On : O.n = 1 := ht.nn
  have b0 : In B 0 := (ht.i 0).2 ((m9_b 0).2 rfl)
  have bz : ∀ v, In B v → v = 0 := fun v hv => (m9_b v).1 ((ht.i v).1 hv)
  have Bn : B.n = 1 := by
    obtain ⟨j, hj, _⟩ := b0
    rcases Nat.lt_or_ge 1 B.n with c | c
    · have := ht.up 0 1 (by omega) c
      have e0 := bz _ ⟨0, by omega, rfl⟩
      have e1 := bz _ ⟨1, by omega, rfl⟩
      omega
    · omega
  have es : Gd l ⟨1, fun _ => ⟨30, 30⟩⟩ = some true := alH (by omega) ln fun j hj => by
    obtain rfl : j = 0 := by omega
    exact l0
  have eb : Gc B ⟨1, fun _ => 0⟩ = some true := aqE (by omega) Bn fun j hj => bz _ ⟨j, hj, rfl⟩
  obtain ⟨r, er, rn, rf⟩ := aqN l (l := ⟨1, fun _ => ⟨0, 31⟩⟩) (by decide) fun j _ => (⟨by decide, by decide⟩ : NdOK ⟨0, 31⟩)
  have ef : Gc r ⟨1, fun _ => -1⟩ = some true := by
    have rn : r.n = 1 := rn
    refine aqE (by omega) rn fun j hj => ?_
    obtain rfl : j = 0 := by omega
    rw [rf 0 (by decide)]
    unfold fedV
    rw [ln, show (l.f (Int.toNat (rW.mk 0 31).Road)) = ⟨30, 30⟩ from l0]
    rfl
  rw [ahq]; unfold WB
  refine (get_bind el).trans ?_
  refine (get_bind et).trans ?_
  dsimp only
  rw [qo (show ((0 : Int) == 0) = true from rfl), get_bind es, qo rfl, qo (by rw [On]; rfl), get_bind eb, qo rfl, qo (decide_eq_true ⟨by omega, by omega⟩), get_bind (aqs _), l0, qo (by rfl)]
  refine (get_bind er).trans ?_
  rw [get_bind ef]; rfl
end Go.Proofs.YtimkpfnbkclclaaGreat.Ab
namespace Go.Proofs.YtimkpfnbkclclaaGreat.Ab
noncomputable section
open Go
attribute [local irreducible] arun
def Qy : DT (qB) :=
 .leaf (qB.mk (-1125899906842624 : Int) (1125899906842624 : Int))
def tO : FnM := flM (Unit) (qB) (fun _ => ([], [])) (fun _ => Qy) (fun r => .agg (qB.enc r)) (fun _ => rfl)
def Yq : Env := envM [] [] [] [] [] 0
theorem Al : aI Tryz.prog 46 tO.c := tO.tells Tryz.func46 (show ∀ p, arun Yq Tryz.f46 (tO.enc p).1 (tO.enc p).2 = _ from fun p => by kernel_rfl) p8 .nil
def uO : Option (qB) := tO.val ()
theorem agx : uO = (Qy).get := tO.val_eq (fun _ => ()) (fun p => by kernel_rfl) ()
end
end Go.Proofs.YtimkpfnbkclclaaGreat.Ab
namespace Go.Proofs.YtimkpfnbkclclaaGreat.Ab
open Go
theorem aqm : uO = some noS := by rw [agx]; rfl
end Go.Proofs.YtimkpfnbkclclaaGreat.Ab
namespace Go.Proofs.YtimkpfnbkclclaaGreat.Ab
noncomputable section
open Go
attribute [local irreducible] arun
def Iq (u13_1 : Sq qA) (u13_2 : Sq qC) (u13_3 : Sq SFan) (u13_4 : Sq qD) (u13_5 u13_6 u13_7 u13_8 : Sq Int) (u13_9 : Sq Bool) (u13_10 : Int) : DT (LR (Int) (Unit) (Unit)) :=
 .ite (decide (u13_10 < ((u13_1.n : Nat) : Int))) (
 .ite (decide ((0 : Int) ≤ u13_10 ∧ u13_10 < ((u13_9.n : Nat) : Int))) (
 .ite (u13_9.f (Int.toNat u13_10)) (
 .ite (decide ((0 : Int) ≤ u13_10 ∧ u13_10 < ((u13_7.n : Nat) : Int))) (
 .ite ((u13_7.f (Int.toNat u13_10)) != (0 : Int)) (
 .leaf (.r ())) (
 .ite (decide ((0 : Int) ≤ u13_10 ∧ u13_10 < ((u13_8.n : Nat) : Int))) (
 .ite ((u13_8.f (Int.toNat u13_10)) != (0 : Int)) (
 .leaf (.r ())) (
 .leaf (.next (wr (u13_10 + (1 : Int)))))) (
 .fail))) (
 .fail)) (
 .bind (G6 (SAir.mk (qI.mk u13_1 u13_2) u13_3 u13_4) (qz.mk u13_5 u13_6) u13_8 u13_10) fun z0 =>
 .ite (decide (z0 < (0 : Int))) (
 .leaf (.r ())) (
 .bind (Fg (SAir.mk (qI.mk u13_1 u13_2) u13_3 u13_4) (qz.mk u13_5 u13_6) u13_7 u13_10) fun z1 =>
 .ite (decide (z1 > (0 : Int))) (
 .leaf (.r ())) (
 .leaf (.next (wr (u13_10 + (1 : Int)))))))) (
 .fail)) (
 .leaf (.l ()))
def zC : LpM := ⟨(Sq qA) × (Sq qC) × (Sq SFan) × (Sq qD) × (Sq Int) × (Sq Int) × (Sq Int) × (Sq Int) × (Sq Bool), Int, Unit, Unit, fun p => ⟨[(3, .ptr 0 0), (4, .ptr 64 0), (5, .ptr 128 0), (8, .int .i64 ((p.1.1.n : Nat) : Int)), (9, .own 3008 0), (10, .int .i64 p.2)], [(0, .var [sqA 2 qA.enc p.1.1, sqA 10 qC.enc p.1.2.1, sqA 4 SFan.enc p.1.2.2.1, sqA 3 qD.enc p.1.2.2.2.1]), (64, .var [sqA 1 (eI .i64) p.1.2.2.2.2.1, sqA 1 (eI .i64) p.1.2.2.2.2.2.1]), (128, .var [sqA 1 (eI .i64) p.1.2.2.2.2.2.2.1, sqA 1 (eI .i64) p.1.2.2.2.2.2.2.2.1]), (3008, rowA 0 1 4 eO p.1.2.2.2.2.2.2.2.2)], 3200⟩, fun f v => Iq f.1 f.2.1 f.2.2.1 f.2.2.2.1 f.2.2.2.2.1 f.2.2.2.2.2.1 f.2.2.2.2.2.2.1 f.2.2.2.2.2.2.2.1 f.2.2.2.2.2.2.2.2 v, false, (.exit 0), (fun x _ => ⟨[(6, .undef)], [(0, blkS x 0), (64, blkS x 64), (128, blkS x 128), (3008, blkS x 3008)], 3200⟩), .ret, (fun x _ => ⟨[(6, .int .i64 (12 : Int))], [(0, blkS x 0), (64, blkS x 64), (128, blkS x 128), (3008, blkS x 3008)], 3200⟩), c1, c1k⟩
def QY (u13_1 : Sq qA) (u13_2 : Sq qC) (u13_3 : Sq SFan) (u13_4 : Sq qD) (u13_5 u13_6 u13_7 u13_8 : Sq Int) (u13_9 : Sq Bool) (u13_10 : Int) : Option ((Unit) ⊕ (Unit)) := zC.val ((u13_1, u13_2, u13_3, u13_4, u13_5, u13_6, u13_7, u13_8, u13_9), u13_10)
theorem afc (u13_1 : Sq qA) (u13_2 : Sq qC) (u13_3 : Sq SFan) (u13_4 : Sq qD) (u13_5 u13_6 u13_7 u13_8 : Sq Int) (u13_9 : Sq Bool) (u13_10 : Int) : QY u13_1 u13_2 u13_3 u13_4 u13_5 u13_6 u13_7 u13_8 u13_9 u13_10 = fixO (fun v : Int => Iq u13_1 u13_2 u13_3 u13_4 u13_5 u13_6 u13_7 u13_8 u13_9 v) u13_10 := zC.val_eq (fun x => ((sqD qA.dec (cellS x 0 0), sqD qC.dec (cellS x 0 1), sqD SFan.dec (cellS x 0 2), sqD qD.dec (cellS x 0 3), sqD dI (cellS x 64 0), sqD dI (cellS x 64 1), sqD dI (cellS x 128 0), sqD dI (cellS x 128 1), sqB dO (blkS x 3008)), intA (aget x.tm 10))) (fun p => by kernel_rfl) ((u13_1, u13_2, u13_3, u13_4, u13_5, u13_6, u13_7, u13_8, u13_9), u13_10)
def Xt (a : SAir) (s : qz) (b : qL) : DT (Int) :=
 .bind (Gg a) fun z2 =>
 .ite (z2 != (0 : Int)) (
 .leaf z2) (
 .bind (Gi a s) fun z3 =>
 .ite (!z3) (
 .leaf (21 : Int)) (
 .ite (((b.Low.n : Nat) : Int) != ((a.Mine.Places.n : Nat) : Int)) (
 .leaf (11 : Int)) (
 .ite (((b.High.n : Nat) : Int) != ((a.Mine.Places.n : Nat) : Int)) (
 .leaf (11 : Int)) (
 .bind (K3 b.Low) fun z4 =>
 .ite (!z4) (
 .leaf (1 : Int)) (
 .bind (K3 b.High) fun z5 =>
 .ite (!z5) (
 .leaf (1 : Int)) (
 .bind (Nz a.Mine) fun z6 =>
 .sum (QY a.Mine.Places a.Mine.Roads a.Fans a.Doors s.Fans s.Doors b.Low b.High z6 (0 : Int)) (fun _ =>
 .leaf (0 : Int)) (fun _ => .leaf (12 : Int))))))))
def Ar : FnM := flM (SAir × qz × qL) (Int) (fun p => ([.agg (SAir.enc p.1), .agg (qz.enc p.2.1), .agg (qL.enc p.2.2)], [])) (fun p => Xt p.1 p.2.1 p.2.2) (fun r => .int .i64 r) (fun _ => rfl)
def QX : Env := envM [(42, uP.c), (43, uR.c), (114, wK.c), (115, wG.c), (116, wJ.c), (117, vL.c)] [(13, [3, 4, 5, 8, 9, 10], [6])] [(13, zC.c)] [] [(13, [0, 64, 128, 3008])] 0
def adk : Env := { QX with nt := 88 }
theorem QZ : aQ adk (qd 13 Tryz.f80) zC.c := zC.tells 3200 (fun _ => by kernel_rfl) (fun _ _ _ _ => by kernel_rfl) (fun _ _ _ _ => by kernel_rfl) fun R f v N K => by kernel_rfl
theorem YB : aI Tryz.prog 80 Ar.c := Ar.tells Tryz.func80 (show ∀ p, arun QX Tryz.f80 (Ar.enc p).1 (Ar.enc p).2 = _ from fun p => by kernel_rfl) (qg [qd 13 Tryz.f80] (by kernel_rfl) ⟨lpT (by kernel_rfl) QZ, trivial⟩) (.cons zw (.cons zA (.cons K4 (.cons Gl (.cons KZ (.cons JW .nil))))))
def abm (a : SAir) (s : qz) (b : qL) : Option (Int) := Ar.val (a, s, b)
theorem ahH (a : SAir) (s : qz) (b : qL) : abm a s b = (Xt a s b).get := Ar.val_eq (fun x => (SAir.dec (aggL (gd x.1 0)), qz.dec (aggL (gd x.1 1)), qL.dec (aggL (gd x.1 2)))) (fun p => by kernel_rfl) (a, s, b)
def JY (u6_0 : Sq qA) (u6_1 : Sq qC) (u6_2 : Sq SFan) (u6_3 : Sq qD) (u6_4 u6_5 u6_6 u6_7 : Sq Int) (u6_8 : Sq Bool) (u6_9 : Sq qB) (u6_10 : Int) : DT (LR ((Sq qB) × Int) ((Sq qB)) (Unit)) :=
 .ite (decide (u6_10 < ((u6_1.n : Nat) : Int))) (
 .ite (decide ((0 : Int) ≤ u6_10 ∧ u6_10 < ((u6_1.n : Nat) : Int))) (
 .ite (!(u6_1.f (Int.toNat u6_10)).Closed) (
 .bind (uO) fun z0 =>
 .ite (decide ((0 : Int) ≤ (u6_1.f (Int.toNat u6_10)).From ∧ (u6_1.f (Int.toNat u6_10)).From < ((u6_8.n : Nat) : Int))) (
 .ite (u6_8.f (Int.toNat (u6_1.f (Int.toNat u6_10)).From)) (
 .ite (decide ((0 : Int) ≤ (u6_1.f (Int.toNat u6_10)).From ∧ (u6_1.f (Int.toNat u6_10)).From < ((u6_6.n : Nat) : Int))) (
 .ite (decide ((0 : Int) ≤ (u6_1.f (Int.toNat u6_10)).To ∧ (u6_1.f (Int.toNat u6_10)).To < ((u6_7.n : Nat) : Int))) (
 .bind (GZ (SAir.mk (qI.mk u6_0 u6_1) u6_2 u6_3) (qz.mk u6_4 u6_5) u6_10 (wr ((u6_6.f (Int.toNat (u6_1.f (Int.toNat u6_10)).From)) - (u6_7.f (Int.toNat (u6_1.f (Int.toNat u6_10)).To))))) fun z1 =>
 .ite (decide ((0 : Int) ≤ (u6_1.f (Int.toNat u6_10)).From ∧ (u6_1.f (Int.toNat u6_10)).From < ((u6_7.n : Nat) : Int))) (
 .ite (decide ((0 : Int) ≤ (u6_1.f (Int.toNat u6_10)).To ∧ (u6_1.f (Int.toNat u6_10)).To < ((u6_6.n : Nat) : Int))) (
 .bind (Fb (SAir.mk (qI.mk u6_0 u6_1) u6_2 u6_3) (qz.mk u6_4 u6_5) u6_10 (wr ((u6_7.f (Int.toNat (u6_1.f (Int.toNat u6_10)).From)) - (u6_6.f (Int.toNat (u6_1.f (Int.toNat u6_10)).To))))) fun z2 =>
 .ite (decide ((u6_9.n + 1) * 16 ≤ 140737488355328 ∧ (u6_9.n + 1) ≤ 1099511627776)) (
 .leaf (.next ((Sq.mk (u6_9.n + 1) (fun k0 => (qB.mk (cond (Nat.blt k0 u6_9.n) (u6_9.f k0).Low z1) (cond (Nat.blt k0 u6_9.n) (u6_9.f k0).High z2)))), (wr (u6_10 + (1 : Int)))))) (
 .fail)) (
 .fail)) (
 .fail)) (
 .fail)) (
 .fail)) (
 .ite (decide ((u6_9.n + 1) * 16 ≤ 140737488355328 ∧ (u6_9.n + 1) ≤ 1099511627776)) (
 .leaf (.next ((Sq.mk (u6_9.n + 1) (fun k1 => (qB.mk (cond (Nat.blt k1 u6_9.n) (u6_9.f k1).Low z0.Low) (cond (Nat.blt k1 u6_9.n) (u6_9.f k1).High z0.High)))), (wr (u6_10 + (1 : Int)))))) (
 .fail))) (
 .fail)) (
 .ite (decide ((u6_9.n + 1) * 16 ≤ 140737488355328 ∧ (u6_9.n + 1) ≤ 1099511627776)) (
 .leaf (.next ((Sq.mk (u6_9.n + 1) (fun k2 => (qB.mk (cond (Nat.blt k2 u6_9.n) (u6_9.f k2).Low (0 : Int)) (cond (Nat.blt k2 u6_9.n) (u6_9.f k2).High (0 : Int))))), (wr (u6_10 + (1 : Int)))))) (
 .fail))) (
 .fail)) (
 .leaf (.l u6_9))
def Bz : LpM := ⟨(Sq qA) × (Sq qC) × (Sq SFan) × (Sq qD) × (Sq Int) × (Sq Int) × (Sq Int) × (Sq Int) × (Sq Bool), (Sq qB) × Int, (Sq qB), Unit, fun p => ⟨[(3, .ptr 0 0), (4, .ptr 64 0), (5, .ptr 128 0), (7, .own 768 0), (8, .own 896 0), (9, .int .i64 p.2.2)], [(0, .var [sqA 2 qA.enc p.1.1, sqA 10 qC.enc p.1.2.1, sqA 4 SFan.enc p.1.2.2.1, sqA 3 qD.enc p.1.2.2.2.1]), (64, .var [sqA 1 (eI .i64) p.1.2.2.2.2.1, sqA 1 (eI .i64) p.1.2.2.2.2.2.1]), (128, .var [sqA 1 (eI .i64) p.1.2.2.2.2.2.2.1, sqA 1 (eI .i64) p.1.2.2.2.2.2.2.2.1]), (768, rowA 0 1 4 eO p.1.2.2.2.2.2.2.2.2), (896, rowA 0 2 51 qB.enc p.2.1)], 1024⟩, fun f v => JY f.1 f.2.1 f.2.2.1 f.2.2.2.1 f.2.2.2.2.1 f.2.2.2.2.2.1 f.2.2.2.2.2.2.1 f.2.2.2.2.2.2.2.1 f.2.2.2.2.2.2.2.2 v.1 v.2, true, (.exit 0), (fun x a => ⟨[(8, .own 896 0)], [(0, blkS x 0), (64, blkS x 64), (128, blkS x 128), (768, blkS x 768), (896, rowA 0 2 51 qB.enc a)], 1024⟩), .ret, (fun _ _ => ⟨[], [], 0⟩), c1, c1k⟩
def Us (u6_0 : Sq qA) (u6_1 : Sq qC) (u6_2 : Sq SFan) (u6_3 : Sq qD) (u6_4 u6_5 u6_6 u6_7 : Sq Int) (u6_8 : Sq Bool) (u6_9 : Sq qB) (u6_10 : Int) : Option (((Sq qB)) ⊕ (Unit)) := Bz.val ((u6_0, u6_1, u6_2, u6_3, u6_4, u6_5, u6_6, u6_7, u6_8), (u6_9, u6_10))
theorem afV (u6_0 : Sq qA) (u6_1 : Sq qC) (u6_2 : Sq SFan) (u6_3 : Sq qD) (u6_4 u6_5 u6_6 u6_7 : Sq Int) (u6_8 : Sq Bool) (u6_9 : Sq qB) (u6_10 : Int) : Us u6_0 u6_1 u6_2 u6_3 u6_4 u6_5 u6_6 u6_7 u6_8 u6_9 u6_10 = fixO (fun v : (Sq qB) × Int => JY u6_0 u6_1 u6_2 u6_3 u6_4 u6_5 u6_6 u6_7 u6_8 v.1 v.2) (u6_9, u6_10) := Bz.val_eq (fun x => ((sqD qA.dec (cellS x 0 0), sqD qC.dec (cellS x 0 1), sqD SFan.dec (cellS x 0 2), sqD qD.dec (cellS x 0 3), sqD dI (cellS x 64 0), sqD dI (cellS x 64 1), sqD dI (cellS x 128 0), sqD dI (cellS x 128 1), sqB dO (blkS x 768)), (sqB qB.dec (blkS x 896), intA (aget x.tm 9)))) (fun p => by kernel_rfl) ((u6_0, u6_1, u6_2, u6_3, u6_4, u6_5, u6_6, u6_7, u6_8), (u6_9, u6_10))
def Xv (a : SAir) (s : qz) (b : qL) : DT ((Sq qB)) :=
 .bind (abm a s b) fun z3 =>
 .ite (z3 != (0 : Int)) (
 .leaf (Sq.mk 0 (fun _ => (qB.mk (0 : Int) (0 : Int))))) (
 .bind (Yk a.Mine) fun z4 =>
 .sum (Us a.Mine.Places a.Mine.Roads a.Fans a.Doors s.Fans s.Doors b.Low b.High z4 (Sq.mk 0 (fun _ => (qB.mk (0 : Int) (0 : Int)))) (0 : Int)) (fun y0 =>
 .leaf y0) (fun _ => .fail))
def Au : FnM := nfM (SAir × qz × qL) ((Sq qB)) (fun p => ([.agg (SAir.enc p.1), .agg (qz.enc p.2.1), .agg (qL.enc p.2.2)], [])) (fun p => Xv p.1 p.2.1 p.2.2) (fun _ => .own 0 0) (fun _ r => [rowA 0 2 51 qB.enc r])
def Q5 : Env := envM [(80, Ar.c), (81, zP.c), (46, tO.c), (82, vD.c), (83, uQ.c)] [(6, [3, 4, 5, 7, 8, 9], [8])] [(6, Bz.c)] [(1000006, [.asrow 896 51 2 (fun _ => qB.enc (qB.mk (0 : Int) (0 : Int)))]), (2000000, [.asrow 576 51 2 (fun _ => qB.enc (qB.mk (0 : Int) (0 : Int)))])] [(6, [0, 64, 128, 768, 896])] 0
def adn : Env := { Q5 with nt := 84 }
theorem SB : aQ adn (qd 6 Tryz.f45) Bz.c := Bz.tells 1024 (fun _ => by kernel_rfl) (fun _ _ _ _ => by kernel_rfl) (fun _ _ _ _ => by kernel_rfl) fun R f v N K => by kernel_rfl
theorem YC : aI Tryz.prog 45 Au.c := Au.tells Tryz.func45 (show ∀ p, arun Q5 Tryz.f45 (Au.enc p).1 (Au.enc p).2 = _ from fun p => by kernel_rfl) (qg [qd 6 Tryz.f45] (by kernel_rfl) ⟨lpT (by kernel_rfl) SB, trivial⟩) (.cons YB (.cons Oz (.cons Al (.cons Fe (.cons Et .nil)))))
def abn (a : SAir) (s : qz) (b : qL) : Option ((Sq qB)) := Au.val (a, s, b)
theorem ahJ (a : SAir) (s : qz) (b : qL) : abn a s b = (Xv a s b).get := Au.val_eq (fun x => (SAir.dec (aggL (gd x.1 0)), qz.dec (aggL (gd x.1 1)), qL.dec (aggL (gd x.1 2)))) (fun p => by kernel_rfl) (a, s, b)
end
end Go.Proofs.YtimkpfnbkclclaaGreat.Ab
namespace Go.Proofs.YtimkpfnbkclclaaGreat.Ab
open Go
theorem akP {a : SAir} {s : qz} (ok : RtOK a s) {L H : Sq Int} (ln : L.n = a.Mine.Places.n) (hn : H.n = a.Mine.Places.n) (lr : Rng L) (hr : Rng H) {t : Sq Bool} (tn : t.n = a.Mine.Places.n) (ht : ∀ v : Nat, v < a.Mine.Places.n → (t.f v = true ↔ (a.Mine.Places.f v).Surface = true ∨ ¬ Aw a.Mine v)) :
    QY a.Mine.Places a.Mine.Roads a.Fans a.Doors s.Fans s.Doors L H t 0 = some (sumO (bn (gQ (akI a s L H)) a.Mine.Places.n 0)) := by
  have np := ok.m.np
  have pL : aiV a L := ⟨ln, lr⟩
  have pH : aiV a H := ⟨hn, hr⟩
  rw [afc, ← aiX]
  refine oM (step := fun v => Iq a.Mine.Places a.Mine.Roads a.Fans a.Doors s.Fans s.Doors L H t v) (gQ (akI a s L H)) (fun i hi => ?_) ?_ a.Mine.Places.n 0 (Nat.zero_add _)
  · unfold Iq gQ
    have at' := ht i hi
    rw [qo (dlt hi), qo (dix (by omega)), pI, qc (by omega)]
    by_cases c : t.f i = true
    · have fx := at'.1 c
      rw [qo c, qo (dix (by omega))]
      by_cases c1 : L.f i = 0
      · rw [qm (by rw [c1]; rfl), qo (dix (by omega))]
        by_cases c2 : H.f i = 0
        · rw [qm (by rw [c2]; rfl), if_pos ⟨fun _ => ⟨c1, c2⟩, fun n => absurd fx n⟩]; rfl
        · rw [qo (by simp [c2]), if_neg fun q => c2 (q.1 fx).2]; rfl
      · rw [qo (by simp [c1]), if_neg fun q => c1 (q.1 fx).1]; rfl
    · have nf : ¬ ((a.Mine.Places.f i).Surface = true ∨ ¬ Aw a.Mine i) := fun q => c (at'.2 q)
      rw [qm (by simpa using c)]
      refine (get_bind (ajz ok pH (pl := (i : Int)) (p := H.f i) (by rw [pI]))).trans ?_
      by_cases c1 : NL a s H i (H.f i) < 0
      · rw [qo (decide_eq_true c1), if_neg fun q => by have := (q.2 nf).1; omega]; rfl
      · rw [qm (decide_eq_false c1)]
        refine (get_bind (aju ok pL (pl := (i : Int)) (p := L.f i) (by rw [pI]))).trans ?_
        by_cases c2 : NH a s L i (L.f i) > 0
        · rw [qo (decide_eq_true c2), if_neg fun q => by have := (q.2 nf).2; omega]; rfl
        · rw [qm (decide_eq_false c2), if_pos ⟨fun q => absurd q nf, fun _ => ⟨by omega, by omega⟩⟩]; rfl
  · unfold Iq
    rw [qm (dge (Nat.le_refl _))]; rfl
theorem al9 (a : SAir) (s : qz) (b : qL) : abm a s b = some (aje a s b) := by
  rw [ahH]; unfold Xt aje
  rw [get_bind (ajJ a)]
  by_cases h1 : airE a = 0
  · rw [qm (by rw [h1]; rfl), if_neg (not_not_intro h1), get_bind (akA a s)]
    by_cases h2 : aiR a s = true
    · have ok := aiU h2
      have np := ok.m.np
      rw [h2, qm (b := !true) rfl, if_neg (by simp)]
      by_cases h3 : b.Low.n = a.Mine.Places.n
      · rw [qm (by rw [h3]; simp), if_neg (not_not_intro h3)]
        by_cases h4 : b.High.n = a.Mine.Places.n
        · rw [qm (by rw [h4]; simp), if_neg (not_not_intro h4)]
          obtain ⟨x, ex, hx⟩ := alk b.Low (by omega)
          obtain ⟨y, ey, hy⟩ := alk b.High (by omega)
          rw [get_bind ex]
          by_cases h5 : Rng b.Low
          · rw [hx.2 h5, qm (b := !true) rfl, if_neg (not_not_intro h5), get_bind ey]
            by_cases h6 : Rng b.High
            · obtain ⟨t, et, tn, ht⟩ := alY ok.m
              have el := akP ok h3 h4 h5 h6 tn ht
              rw [hy.2 h6, qm (b := !true) rfl, if_neg (not_not_intro h6), get_bind et]
              by_cases h7 : ∀ i, i < a.Mine.Places.n → akI a s b.Low b.High i
              · rw [amq h7] at el
                rw [pV el, if_pos h7]; rfl
              · rw [amr h7] at el
                rw [pV el, if_neg h7]; rfl
            · have : y = false := by cases y with
                | false => rfl
                | true => exact absurd (hy.1 rfl) h6
              rw [this, qo (b := !false) rfl, if_pos h6]; rfl
          · have : x = false := by cases x with
              | false => rfl
              | true => exact absurd (hx.1 rfl) h5
            rw [this, qo (b := !false) rfl, if_pos h5]; rfl
        · rw [qo (by simp; omega), if_pos h4]; rfl
      · rw [qo (by simp; omega), if_pos h3]; rfl
    · have h2 : aiR a s = false := by simpa using h2
      rw [h2, qo (b := !false) rfl, if_pos rfl]; rfl
  · rw [qo (by simp [h1]), if_pos h1]; rfl
theorem alD (a : SAir) (s : qz) (b : qL) : ∃ l, abn a s b = some l ∧ (aje a s b ≠ 0 → l.n = 0) ∧ (aje a s b = 0 → l.n = a.Mine.Roads.n ∧ ∀ j, j < a.Mine.Roads.n → l.f j = ajN a s b j) := by
  rw [ahJ]; unfold Xv
  rw [get_bind (al9 a s b)]
  by_cases c : aje a s b = 0
  · obtain ⟨_, h⟩ := al0 c
    have ok := h.r
    have nr := ok.m.nr
    have np := ok.m.np
    have ln := h.ln
    have hn := h.hn
    obtain ⟨t, et, tn, ht⟩ := anQ ok.m
    have key := pY (step := fun v : Sq qB × Int => JY a.Mine.Places a.Mine.Roads a.Fans a.Doors s.Fans s.Doors b.Low b.High t v.1 v.2)
      (fun v => ∃ k : Nat, v.2 = k ∧ k ≤ a.Mine.Roads.n ∧ v.1.n = k ∧ ∀ j, j < k → v.1.f j = ajN a s b j) (fun v => a.Mine.Roads.n - v.2.toNat)
      (fun z => ∃ y, z = .inl y ∧ y.n = a.Mine.Roads.n ∧ ∀ j, j < a.Mine.Roads.n → y.f j = ajN a s b j) (fun v hv => by
        obtain ⟨l, x⟩ := v
        obtain ⟨k, h1, hk, hl, hf⟩ := hv
        dsimp only at h1 hl hf ⊢
        subst h1
        unfold JY
        rcases Nat.lt_or_ge k a.Mine.Roads.n with hi | hi
        · have re := ai2 ok.m hi
          have g3 : decide ((l.n + 1) * 16 ≤ 140737488355328 ∧ (l.n + 1) ≤ 1099511627776) = true := decide_eq_true ⟨by omega, by omega⟩
          have ms : a.Mine.Roads.n - (wr ((k : Int) + 1)).toNat < a.Mine.Roads.n - (k : Int).toNat := by rw [qc (by omega)]; omega
          have nx : ∀ S : qB, S = ajN a s b k → ∃ k2 : Nat, wr ((k : Int) + 1) = k2 ∧ k2 ≤ a.Mine.Roads.n ∧ l.n + 1 = k2 ∧ ∀ j, j < k2 → qB.mk (cond (Nat.blt j l.n) (l.f j).Low S.Low) (cond (Nat.blt j l.n) (l.f j).High S.High) = ajN a s b j := fun S hS => by
            refine ⟨k + 1, qc (by omega), hi, by omega, fun j hj => ?_⟩
            by_cases q : j < l.n
            · rw [ajf q]; exact hf j (by omega)
            · rw [ajl (by omega), show j = k by omega, ← hS]; rfl
          rw [qo (dlt hi), qo (dix hi), pI]
          by_cases ec : (a.Mine.Roads.f k).Closed = true
          · rw [qm (by rw [ec]; rfl), qo g3]
            exact ⟨_, rfl, nx ⟨0, 0⟩ (by unfold ajN; rw [if_pos ec]), ms⟩
          · have bF := h.lr (a.Mine.Roads.f k).From.toNat (by omega)
            have bT := h.lr (a.Mine.Roads.f k).To.toNat (by omega)
            have cF := h.hr (a.Mine.Roads.f k).From.toNat (by omega)
            have cT := h.hr (a.Mine.Roads.f k).To.toNat (by omega)
            have at' := ht (a.Mine.Roads.f k).From.toNat (by omega)
            rw [show (((a.Mine.Roads.f k).From.toNat : Nat) : Int) = (a.Mine.Roads.f k).From by omega] at at'
            rw [qo (by simpa using ec), get_bind (show uO = some ⟨-1125899906842624, 1125899906842624⟩ by rw [agx]; rfl), qo (decide_eq_true ⟨re.1, by omega⟩)]
            by_cases aw : t.f (a.Mine.Roads.f k).From.toNat = true
            · rw [qo aw, qo (decide_eq_true ⟨re.1, by omega⟩), qo (decide_eq_true ⟨re.2.2.1, by omega⟩), pJ (x := b.Low.f (a.Mine.Roads.f k).From.toNat - b.High.f (a.Mine.Roads.f k).To.toNat) (by omega) (by omega)]
              refine amS (ak5 ok hi _).1 ?_
              rw [qo (decide_eq_true ⟨re.1, by omega⟩), qo (decide_eq_true ⟨re.2.2.1, by omega⟩), pJ (x := b.High.f (a.Mine.Roads.f k).From.toNat - b.Low.f (a.Mine.Roads.f k).To.toNat) (by omega) (by omega)]
              refine amS (ak4 ok hi _).1 ?_
              rw [qo g3]
              exact ⟨_, rfl, nx ⟨flL a s k (b.Low.f (a.Mine.Roads.f k).From.toNat - b.High.f (a.Mine.Roads.f k).To.toNat), flH a s k (b.High.f (a.Mine.Roads.f k).From.toNat - b.Low.f (a.Mine.Roads.f k).To.toNat)⟩ (by unfold ajN; rw [if_neg ec, if_pos (at'.1 aw)]), ms⟩
            · rw [qm (by simpa using aw), qo g3]
              exact ⟨_, rfl, nx ⟨_, _⟩ (by unfold ajN; rw [if_neg ec, if_neg fun q => aw (at'.2 q)]), ms⟩
        · obtain rfl : k = a.Mine.Roads.n := by omega
          rw [qm (dge (Nat.le_refl _))]
          exact ⟨_, rfl, _, rfl, hl, hf⟩)
      (⟨0, fun _ => ⟨0, 0⟩⟩, 0) ⟨0, rfl, Nat.zero_le _, rfl, fun j hj => absurd hj (Nat.not_lt_zero _)⟩
    obtain ⟨z, hz, y, rfl, yn, yf⟩ := key
    rw [c, qm (show ((0 : Int) != 0) = false from rfl), get_bind et, pV (by rw [afV]; exact hz)]
    exact ⟨y, rfl, fun n => absurd rfl n, fun _ => ⟨yn, yf⟩⟩
  · rw [qo (by simp [c])]
    exact ⟨_, rfl, fun _ => rfl, fun n => absurd n c⟩
end Go.Proofs.YtimkpfnbkclclaaGreat.Ab
