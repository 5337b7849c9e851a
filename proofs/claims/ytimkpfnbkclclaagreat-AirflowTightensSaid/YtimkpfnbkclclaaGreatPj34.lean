/- A part of the proof, what is needed of it. -/
import Derived.Test.YtimkpfnbkclclaaGreatPj09
import Derived.Test.YtimkpfnbkclclaaGreatPj26
import Derived.Test.YtimkpfnbkclclaaGreatPj33
namespace Go.Proofs.YtimkpfnbkclclaaGreat.Ab
open Go
def dirV (f : qB) : Int := if f.Low > f.High then 0 else if f.Low > 0 then 1 else if f.High < 0 then -1 else 0
theorem aqp (f : qB) : Nb f = some (decide (f.Low > f.High)) := by
  rw [agb]; rfl
theorem aqs (f : qB) : Di f = some (dirV f) := by
  rw [aef]; unfold Ja dirV
  rw [get_bind (aqp f)]
  by_cases c1 : f.Low > f.High
  · rw [qo (decide_eq_true c1), if_pos c1]; rfl
  rw [qm (decide_eq_false c1), if_neg c1]
  by_cases c2 : f.Low > 0
  · rw [qo (decide_eq_true c2), if_pos c2]; rfl
  rw [qm (decide_eq_false c2), if_neg c2]
  by_cases c3 : f.High < 0
  · rw [qo (decide_eq_true c3), if_pos c3]; rfl
  · rw [qm (decide_eq_false c3), if_neg c3]; rfl
def fedV (F : Sq qB) (x : rW) : Int :=
  if ¬ (0 ≤ x.Road ∧ x.Road < F.n) then 0 else if (F.f x.Road.toNat).Low > (F.f x.Road.toNat).High then 0
  else if x.Need ≤ 0 ∨ (F.f x.Road.toNat).Low ≥ x.Need ∨ (F.f x.Road.toNat).High ≤ -x.Need then 1
  else if (F.f x.Road.toNat).Low > -x.Need ∧ (F.f x.Road.toNat).High < x.Need then -1 else 0
def NdOK (x : rW) : Prop := -1099511627776 ≤ x.Need ∧ x.Need ≤ 1099511627776
theorem aqB (f : qB) {n : Int} (n0 : -1099511627776 ≤ n) (n1 : n ≤ 1099511627776) : Tg f n = some (if f.Low > f.High then 0 else if n ≤ 0 ∨ f.Low ≥ n ∨ f.High ≤ -n then 1 else if f.Low > -n ∧ f.High < n then -1 else 0) := by
  have w : wr (0 - n) = -n := by rw [pJ (by omega) (by omega)]; omega
  rw [aft]; unfold NZ
  rw [get_bind (aqp f)]
  by_cases c3 : f.Low > f.High
  · rw [qo (decide_eq_true c3), if_pos c3]; rfl
  rw [qm (decide_eq_false c3), if_neg c3]
  by_cases c4 : n ≤ 0
  · rw [qo (decide_eq_true c4), if_pos (.inl c4)]; rfl
  rw [qm (decide_eq_false c4)]
  by_cases c5 : f.Low ≥ n
  · rw [qo (decide_eq_true c5), if_pos (.inr (.inl c5))]; rfl
  rw [qm (decide_eq_false c5), w]
  by_cases c6 : f.High ≤ -n
  · rw [qo (decide_eq_true c6), if_pos (.inr (.inr c6))]; rfl
  rw [qm (decide_eq_false c6), if_neg (show ¬ (n ≤ 0 ∨ f.Low ≥ n ∨ f.High ≤ -n) by omega)]
  by_cases c7 : f.Low > -n
  · rw [qo (decide_eq_true c7)]
    by_cases c8 : f.High < n
    · rw [qo (decide_eq_true c8), if_pos ⟨c7, c8⟩]; rfl
    · rw [qm (decide_eq_false c8), if_neg fun q => c8 q.2]; rfl
  · rw [qm (decide_eq_false c7), if_neg fun q => c7 q.1]; rfl
theorem aqN (F : Sq qB) {l : Sq rW} (ln : l.n ≤ 1000) (h : ∀ j, j < l.n → NdOK (l.f j)) : ∃ r, Jb F l = some r ∧ r.n = l.n ∧ ∀ j, j < l.n → r.f j = fedV F (l.f j) := by
  obtain ⟨z, hz, y, rfl, yn, yf⟩ := pY (step := fun v : Sq Int × Int => Jc F l v.1 v.2)
    (fun v => ∃ k : Nat, v.2 = k ∧ k ≤ l.n ∧ v.1.n = l.n ∧ ∀ j, j < k → v.1.f j = fedV F (l.f j)) (fun v => l.n - v.2.toNat)
    (fun z => ∃ y, z = .inl y ∧ y.n = l.n ∧ ∀ j, j < l.n → y.f j = fedV F (l.f j)) (fun v hv => by
      obtain ⟨o, x⟩ := v
      obtain ⟨k, h1, hk, hl, hf⟩ := hv
      dsimp only at h1 hl hf ⊢
      subst h1
      unfold Jc
      rcases Nat.lt_or_ge k l.n with hi | hi
      · obtain ⟨n0, n1⟩ := h k hi
        have dn : l.n - (wr ((k : Int) + 1)).toNat < l.n - (k : Int).toNat := by rw [qc (by omega)]; omega
        rw [qo (dlt hi), qo (dix hi), qo (dix (by omega)), pI, get_bind (aqn _ _)]
        by_cases c : 0 ≤ (l.f k).Road ∧ (l.f k).Road < F.n
        · rw [qo (decide_eq_true c), qo (decide_eq_true c), get_bind (aqB _ n0 n1), qo (dix (by omega))]
          refine ⟨_, rfl, ⟨k + 1, qc (by omega), hi, hl, fun j hj => ?_⟩, dn⟩
          dsimp only
          by_cases q : j = k
          · rw [ajw q, q]; unfold fedV; rw [if_neg (show ¬ ¬ (0 ≤ (l.f k).Road ∧ (l.f k).Road < F.n) from fun w => w c)]; rfl
          · rw [ajM q]; exact hf j (by omega)
        · rw [qm (decide_eq_false c)]
          refine ⟨_, rfl, ⟨k + 1, qc (by omega), hi, hl, fun j hj => ?_⟩, dn⟩
          dsimp only
          by_cases q : j = k
          · rw [ajw q, q]; unfold fedV; rw [if_pos (show ¬ (0 ≤ (l.f k).Road ∧ (l.f k).Road < F.n) from c)]; rfl
          · rw [ajM q]; exact hf j (by omega)
      · obtain rfl : k = l.n := by omega
        rw [qm (dge (by omega))]
        exact ⟨_, rfl, _, rfl, hl, hf⟩)
    (⟨l.n, fun _ => 0⟩, 0) ⟨0, rfl, Nat.zero_le _, rfl, fun j hj => absurd hj (Nat.not_lt_zero _)⟩
  rw [ahg]; unfold VU
  rw [qo (decide_eq_true ⟨by omega, by omega, by omega, by omega⟩), pI, pV (by rw [afs]; exact hz)]
  exact ⟨y, rfl, yn, yf⟩
def s9 : Sq qG := ⟨1, fun _ => ⟨0, 3, 0, 0, 0, 0, 0, 9⟩⟩
def m9 : Sq qE := ⟨2, fun k => ⟨cond (Nat.beq k 0) 0 0, cond (Nat.beq k 0) 0 0, ⟨cond (Nat.beq k 0) 55 70, cond (Nat.beq k 0) 70 80⟩⟩⟩
def f9 : Sq qB := ⟨1, fun _ => ⟨40, 60⟩⟩
theorem arx {x : qE} (h : x.Sensor = 0) : Tgt f9.n s9 x := by
  unfold Tgt
  rw [h]
  exact ⟨by decide, by decide, rfl, by decide, by decide⟩
theorem arQ : SnOK (s9.f 0) := by
  show SnOK ⟨0, 3, 0, 0, 0, 0, 0, 9⟩
  unfold SnOK
  decide
theorem m9_b (v : Int) : (trun f9 s9 m9 1 m9.n).b v ↔ v = 0 := by
  have a0 : atF (s9.f (m9.f 0).Sensor.toNat) (m9.f 0) 1 = ⟨55, 70⟩ := by
    have sy : Says (s9.f (m9.f 0).Sensor.toNat) (m9.f 0) 1 := ⟨arQ, by decide, by decide, by decide, by decide⟩
    unfold atF
    rw [if_pos sy]; rfl
  have a1 : atF (s9.f (m9.f 1).Sensor.toNat) (m9.f 1) 1 = ⟨70, 80⟩ := by
    have sy : Says (s9.f (m9.f 1).Sensor.toNat) (m9.f 1) 1 := ⟨arQ, by decide, by decide, by decide, by decide⟩
    unfold atF
    rw [if_pos sy]; rfl
  have t1 := aqJ (F := f9) (l := s9) (m := m9) (t := 1) (k := 0) (r := 0) (y := (⟨55, 60⟩, true)) rfl rfl (by rw [a0]; rfl) (arx rfl) rfl
  have t2 := aqJ (F := f9) (l := s9) (m := m9) (t := 1) (k := 1) (r := 0) (y := (noS, false)) rfl rfl (by rw [a1, t1]; rfl) (arx rfl) (by rw [t1]; rfl)
  show (trun f9 s9 m9 1 (1 + 1)).b v ↔ v = 0
  rw [t2, t1]
  dsimp only
  show (((False ∨ ((true = false) ∧ v = (m9.f 0).Sensor)) ∨ ((false = false) ∧ v = (m9.f 1).Sensor)) ↔ v = 0)
  have e : (m9.f 1).Sensor = 0 := rfl
  rw [e]
  simp
theorem arF : rD = some true := by
  obtain ⟨l, el, hl⟩ := aqv aqC (by decide) (by decide)
  have ln : l.n = 1 := hl.nn
  have l0 : l.f 0 = ⟨30, 30⟩ := by
    rw [hl.e 0 (by decide)]; unfold anaF
    rw [arn, if_pos rfl]; exact arA
  obtain ⟨O, B, et, ht⟩ := aqw (F := f9) (l := s9) (m := m9) (t := 1) (by decide) (by decide) fun i hi _ => by
    have hi : i < 2 := hi
    rcases (show i = 0 ∨ i = 1 by omega) with q | q <;> subst q <;> unfold MsOK <;> decide
  have On : O.n = 1 := ht.nn
  have b0 : In B 0 := (ht.i 0).2 ((m9_b 0).2 rfl)
  have bz : ∀ v, In B v → v = 0 := fun v hv => (m9_b v).1 ((ht.i v).1 hv)
  have Bn : B.n = 1 := by
    obtain ⟨j, hj, _⟩ := b0
    rcases Nat.lt_or_ge 1 B.n with c | c
    · have := ht.up 0 1 (by omega) c
      have e0 := bz _ ⟨0, by omega, rfl⟩
      have e1 := bz _ ⟨1, by omega, rfl⟩
      omega
    · omega
  have es : Gd l ⟨1, fun _ => ⟨30, 30⟩⟩ = some true := alH (by omega) ln fun j hj => by
    obtain rfl : j = 0 := by omega
    exact l0
  have eb : Gc B ⟨1, fun _ => 0⟩ = some true := aqE (by omega) Bn fun j hj => bz _ ⟨j, hj, rfl⟩
  obtain ⟨r, er, rn, rf⟩ := aqN l (l := ⟨1, fun _ => ⟨0, 31⟩⟩) (by decide) fun j _ => (⟨by decide, by decide⟩ : NdOK ⟨0, 31⟩)
  have ef : Gc r ⟨1, fun _ => -1⟩ = some true := by
    have rn : r.n = 1 := rn
    refine aqE (by omega) rn fun j hj => ?_
    obtain rfl : j = 0 := by omega
    rw [rf 0 (by decide)]
    unfold fedV
    rw [ln, show (l.f (Int.toNat (rW.mk 0 31).Road)) = ⟨30, 30⟩ from l0]
    rfl
  rw [ahq]; unfold WB
  refine (get_bind el).trans ?_
  refine (get_bind et).trans ?_
  dsimp only
  rw [qo (show ((0 : Int) == 0) = true from rfl), get_bind es, qo rfl, qo (by rw [On]; rfl), get_bind eb, qo rfl, qo (decide_eq_true ⟨by omega, by omega⟩), get_bind (aqs _), l0, qo (by rfl)]
  refine (get_bind er).trans ?_
  rw [get_bind ef]; rfl
end Go.Proofs.YtimkpfnbkclclaaGreat.Ab
namespace Go.Proofs.YtimkpfnbkclclaaGreat.Ab
noncomputable section
open Go
attribute [local irreducible] arun
def Qy : DT (qB) :=
 .leaf (qB.mk (-1125899906842624 : Int) (1125899906842624 : Int))
def tO : FnM := flM (Unit) (qB) (fun _ => ([], [])) (fun _ => Qy) (fun r => .agg (qB.enc r)) (fun _ => rfl)
def Yq : Env := envM [] [] [] [] [] 0
theorem Al : aI Tryz.prog 46 tO.c := tO.tells Tryz.func46 (show ∀ p, arun Yq Tryz.f46 (tO.enc p).1 (tO.enc p).2 = _ from fun p => by kernel_rfl) p8 .nil
def uO : Option (qB) := tO.val ()
theorem agx : uO = (Qy).get := tO.val_eq (fun _ => ()) (fun p => by kernel_rfl) ()
def Qz (kind : Int) : DT (Bool) :=
 .leaf (decide (kind ≥ (4 : Int)))
def vK : FnM := flM (Int) (Bool) (fun p => ([.int .i64 p], [])) (fun p => Qz p) (fun r => .bool r) (fun _ => rfl)
def Yr : Env := envM [] [] [] [] [] 0
theorem JE : aI Tryz.prog 84 vK.c := vK.tells Tryz.func84 (show ∀ p, arun Yr Tryz.f84 (vK.enc p).1 (vK.enc p).2 = _ from fun p => by kernel_rfl) p8 .nil
def Nv (kind : Int) : Option (Bool) := vK.val kind
theorem agy (kind : Int) : Nv kind = (Qz kind).get := vK.val_eq (fun x => intA (gd x.1 0)) (fun p => by kernel_rfl) kind
end
end Go.Proofs.YtimkpfnbkclclaaGreat.Ab
namespace Go.Proofs.YtimkpfnbkclclaaGreat.Ab
noncomputable section
open Go
attribute [local irreducible] arun
def acL (n low high : Int) : DT (Bool) :=
 .ite (decide (low ≤ n)) (.leaf (decide (n ≤ high))) (.leaf false)
def Gf : FnM := flM (Int × Int × Int) (Bool) (fun p => ([.int .i64 p.1, .int .i64 p.2.1, .int .i64 p.2.2], [])) (fun p => acL p.1 p.2.1 p.2.2) (fun r => .bool r) (fun _ => rfl)
def ad4 : Env := envM [] [] [] [] [] 0
theorem ab6 : aI Tryz.prog 131 Gf.c := Gf.tells Tryz.func131 (show ∀ p, arun ad4 Tryz.f131 (Gf.enc p).1 (Gf.enc p).2 = _ from fun p => by kernel_rfl) p8 .nil
def KT (n low high : Int) : Option (Bool) := Gf.val (n, low, high)
theorem aiG (n low high : Int) : KT n low high = (acL n low high).get := Gf.val_eq (fun x => (intA (gd x.1 0), intA (gd x.1 1), intA (gd x.1 2))) (fun p => by kernel_rfl) (n, low, high)
def W9 (s : qG) : DT (Int) :=
 .bind (KT s.Kind (1 : Int) (6 : Int)) fun z0 =>
 .ite (!z0) (
 .leaf (5 : Int)) (
 .bind (KT s.Address (0 : Int) (255 : Int)) fun z1 =>
 .ite (!z1) (
 .leaf (1 : Int)) (
 .ite (decide (s.Target < (0 : Int))) (
 .leaf (1 : Int)) (
 .bind (KT s.Offset (-1000000 : Int) (1000000 : Int)) fun z2 =>
 .ite (!z2) (
 .leaf (1 : Int)) (
 .bind (KT s.Scale (-1000000 : Int) (1000000 : Int)) fun z3 =>
 .ite (!z3) (
 .leaf (1 : Int)) (
 .bind (KT s.Error (0 : Int) (1000000 : Int)) fun z4 =>
 .ite (!z4) (
 .leaf (1 : Int)) (
 .bind (KT s.Drift (0 : Int) (1000000 : Int)) fun z5 =>
 .ite (!z5) (
 .leaf (1 : Int)) (
 .bind (KT s.Life (1 : Int) (1000000 : Int)) fun z6 =>
 .ite (!z6) (.leaf (1 : Int)) (.leaf (0 : Int)))))))))
def Aj : FnM := flM (qG) (Int) (fun p => ([.agg (qG.enc p)], [])) (fun p => W9 p) (fun r => .int .i64 r) (fun _ => rfl)
def aa8 : Env := envM [(131, Gf.c)] [] [] [] [] 0
theorem Yo : aI Tryz.prog 90 Aj.c := Aj.tells Tryz.func90 (show ∀ p, arun aa8 Tryz.f90 (Aj.enc p).1 (Aj.enc p).2 = _ from fun p => by kernel_rfl) p8 (.cons ab6 .nil)
def aa7 (s : qG) : Option (Int) := Aj.val s
theorem ahv (s : qG) : aa7 s = (W9 s).get := Aj.val_eq (fun x => qG.dec (aggL (gd x.1 0))) (fun p => by kernel_rfl) s
def Xb (kind : Int) : DT (Bool) :=
 .ite (kind == (1 : Int)) (.leaf true) (.leaf (kind == (2 : Int)))
def Ak : FnM := flM (Int) (Bool) (fun p => ([.int .i64 p], [])) (fun p => Xb p) (fun r => .bool r) (fun _ => rfl)
def abd : Env := envM [] [] [] [] [] 0
theorem Yp : aI Tryz.prog 92 Ak.c := Ak.tells Tryz.func92 (show ∀ p, arun abd Tryz.f92 (Ak.enc p).1 (Ak.enc p).2 = _ from fun p => by kernel_rfl) p8 .nil
def abb (kind : Int) : Option (Bool) := Ak.val kind
theorem ahx (kind : Int) : abb kind = (Xb kind).get := Ak.val_eq (fun x => intA (gd x.1 0)) (fun p => by kernel_rfl) kind
def acM (s : qG) (m : qE) (time : Int) : DT (qB) :=
 .bind (aa7 s) fun z0 =>
 .ite (z0 != (0 : Int)) (
 .bind (uO) fun z1 =>
 .leaf z1) (
 .ite (decide (m.Sensor < (0 : Int))) (
 .bind (uO) fun z2 =>
 .leaf z2) (
 .bind (uO) fun z3 =>
 .ite ((m.Span.Low == z3.Low) && ((m.Span.High == z3.High) && true)) (
 .bind (uO) fun z4 =>
 .leaf z4) (
 .ite (decide (time < m.Time)) (
 .bind (uO) fun z5 =>
 .leaf z5) (
 .ite (decide ((wr (time - m.Time)) > s.Life)) (
 .bind (uO) fun z6 =>
 .leaf z6) (
 .bind (Nv s.Kind) fun z7 =>
 .ite z7 (
 .leaf m.Span) (
 .bind (Yn (wr (s.Drift * (wr (time - m.Time)))) (1000 : Int)) fun z8 =>
 .bind (abb s.Kind) fun z9 =>
 .ite z9 (.leaf (qB.mk (if (wr (m.Span.Low - z8)) < (0 : Int) then (0 : Int) else (wr (m.Span.Low - z8))) (if (wr (m.Span.High + z8)) < (0 : Int) then (0 : Int) else (wr (m.Span.High + z8))))) (.leaf (qB.mk (wr (m.Span.Low - z8)) (wr (m.Span.High + z8))))))))))
def EF : FnM := flM (qG × qE × Int) (qB) (fun p => ([.agg (qG.enc p.1), .agg (qE.enc p.2.1), .int .i64 p.2.2], [])) (fun p => acM p.1 p.2.1 p.2.2) (fun r => .agg (qB.enc r)) (fun _ => rfl)
def ad5 : Env := envM [(90, Aj.c), (46, tO.c), (84, vK.c), (91, zQ.c), (92, Ak.c)] [] [] [] [] 0
theorem TY : aI Tryz.prog 57 EF.c := EF.tells Tryz.func57 (show ∀ p, arun ad5 Tryz.f57 (EF.enc p).1 (EF.enc p).2 = _ from fun p => by kernel_rfl) p8 (.cons Yo (.cons Al (.cons JE (.cons OA (.cons Yp .nil)))))
def adg (s : qG) (m : qE) (time : Int) : Option (qB) := EF.val (s, m, time)
theorem aiH (s : qG) (m : qE) (time : Int) : adg s m time = (acM s m time).get := EF.val_eq (fun x => (qG.dec (aggL (gd x.1 0)), qE.dec (aggL (gd x.1 1)), intA (gd x.1 2))) (fun p => by kernel_rfl) (s, m, time)
def KU (u5_0 : Sq qB) (u5_1 u5_2 u5_3 : Int) : DT (LR (Int × Int × Int) (Int × Int) (Unit)) :=
 .ite (decide (u5_3 < ((u5_0.n : Nat) : Int))) (
 .ite (decide ((0 : Int) ≤ u5_3 ∧ u5_3 < ((u5_0.n : Nat) : Int))) (
 .ite (decide ((0 : Int) ≤ u5_3 ∧ u5_3 < ((u5_0.n : Nat) : Int))) (
 .leaf (.next ((if u5_1 < (u5_0.f (Int.toNat u5_3)).Low then (u5_0.f (Int.toNat u5_3)).Low else u5_1), (if (u5_0.f (Int.toNat u5_3)).High < u5_2 then (u5_0.f (Int.toNat u5_3)).High else u5_2), (wr (u5_3 + (1 : Int)))))) (
 .fail)) (
 .fail)) (
 .leaf (.l (u5_1, u5_2)))
def CK : LpM := ⟨(Sq qB), Int × Int × Int, Int × Int, Unit, fun p => ⟨[(0, sqA 2 qB.enc p.1), (2, .ptr 0 0), (4, .ptr 704 0), (5, .int .i64 p.2.2.2)], [(0, .var [.int .i64 (0 : Int), .int .i64 (0 : Int)]), (704, .var [.int .i64 p.2.1, .int .i64 p.2.2.1])], 896⟩, fun f v => KU f v.1 v.2.1 v.2.2, true, (.exit 0), (fun _ a => ⟨[(2, .ptr 0 0), (4, .ptr 704 0)], [(0, .var [.int .i64 (0 : Int), .int .i64 (0 : Int)]), (704, .var [.int .i64 a.1, .int .i64 a.2])], 896⟩), .ret, (fun _ _ => ⟨[], [], 0⟩), c1, c1k⟩
def Xc (u5_0 : Sq qB) (u5_1 u5_2 u5_3 : Int) : Option ((Int × Int) ⊕ (Unit)) := CK.val (u5_0, (u5_1, u5_2, u5_3))
theorem agz (u5_0 : Sq qB) (u5_1 u5_2 u5_3 : Int) : Xc u5_0 u5_1 u5_2 u5_3 = fixO (fun v : Int × Int × Int => KU u5_0 v.1 v.2.1 v.2.2) (u5_1, u5_2, u5_3) := CK.val_eq (fun x => (sqD qB.dec (aget x.tm 0), (intA (cellS x 704 0), intA (cellS x 704 1), intA (aget x.tm 5)))) (fun p => by kernel_rfl) (u5_0, (u5_1, u5_2, u5_3))
def Zk (l : Sq qB) : DT (qB × Bool) :=
 .ite (((l.n : Nat) : Int) == (0 : Int)) (
 .bind (uO) fun z0 =>
 .leaf (z0, true)) (
 .ite (decide ((0 : Int) ≤ (0 : Int) ∧ (0 : Int) < ((l.n : Nat) : Int))) (
 .sum (Xc l (l.f 0).Low (l.f 0).High (1 : Int)) (fun y0 =>
 .ite (decide (y0.1 > y0.2)) (
 .bind (uO) fun z1 =>
 .leaf (z1, false)) (
 .leaf ((qB.mk y0.1 y0.2), true))) (fun _ => .fail)) (
 .fail))
def zR : FnM := flM ((Sq qB)) (qB × Bool) (fun p => ([sqA 2 qB.enc p], [])) (fun p => Zk p) (fun r => .tup [.agg (qB.enc r.1), .bool r.2]) (fun _ => rfl)
def T9 : Env := envM [(46, tO.c)] [(5, [0, 2, 4, 5], [2, 4])] [(5, CK.c)] [] [(5, [0, 704])] 0
def ad6 : Env := { T9 with nt := 44 }
theorem Vo : aQ ad6 (qd 5 Tryz.f56) CK.c := CK.tells 896 (fun _ => by kernel_rfl) (fun _ _ _ _ => by kernel_rfl) (fun _ _ _ _ => by kernel_rfl) fun R f v N K => by kernel_rfl
theorem OB : aI Tryz.prog 56 zR.c := zR.tells Tryz.func56 (show ∀ p, arun T9 Tryz.f56 (zR.enc p).1 (zR.enc p).2 = _ from fun p => by kernel_rfl) (qg [qd 5 Tryz.f56] (by kernel_rfl) ⟨lpT (by kernel_rfl) Vo, trivial⟩) (.cons Al .nil)
def Yt (l : Sq qB) : Option (qB × Bool) := zR.val l
theorem aib (l : Sq qB) : Yt l = (Zk l).get := zR.val_eq (fun x => sqD qB.dec (gd x.1 0)) (fun p => by kernel_rfl) l
def J2 (u4_0 : Sq Int) (u4_1 : Int) (u4_2 : Sq Int) (u4_3 : Bool) (u4_4 : Int) : DT (LR ((Sq Int) × Bool × Int) (Bool × (Sq Int)) (Bool × (Sq Int))) :=
 .ite (decide (u4_4 < ((u4_0.n : Nat) : Int))) (
 .ite (decide ((0 : Int) ≤ u4_4 ∧ u4_4 < ((u4_0.n : Nat) : Int))) (
 .ite ((u4_0.f (Int.toNat u4_4)) == u4_1) (
 .leaf (.r (u4_3, u4_2))) (
 .ite (decide ((0 : Int) ≤ u4_4 ∧ u4_4 < ((u4_0.n : Nat) : Int))) (
 .ite (decide ((u4_0.f (Int.toNat u4_4)) > u4_1)) (
 .ite (!u4_3) (
 .ite (decide ((u4_2.n + 1) * 8 ≤ 140737488355328 ∧ (u4_2.n + 1) ≤ 1099511627776)) (
 .ite (decide ((0 : Int) ≤ u4_4 ∧ u4_4 < ((u4_0.n : Nat) : Int))) (
 .ite (decide (((u4_2.n + 1) + 1) * 8 ≤ 140737488355328 ∧ ((u4_2.n + 1) + 1) ≤ 1099511627776)) (
 .leaf (.next ((Sq.mk ((u4_2.n + 1) + 1) (fun k0 => (cond (Nat.blt k0 (u4_2.n + 1)) (cond (Nat.blt k0 u4_2.n) (u4_2.f k0) u4_1) (u4_0.f (Int.toNat u4_4))))), true, (wr (u4_4 + (1 : Int)))))) (
 .fail)) (
 .fail)) (
 .fail)) (
 .ite (decide ((0 : Int) ≤ u4_4 ∧ u4_4 < ((u4_0.n : Nat) : Int))) (
 .ite (decide ((u4_2.n + 1) * 8 ≤ 140737488355328 ∧ (u4_2.n + 1) ≤ 1099511627776)) (
 .leaf (.next ((Sq.mk (u4_2.n + 1) (fun k1 => (cond (Nat.blt k1 u4_2.n) (u4_2.f k1) (u4_0.f (Int.toNat u4_4))))), u4_3, (wr (u4_4 + (1 : Int)))))) (
 .fail)) (
 .fail))) (
 .ite (decide ((0 : Int) ≤ u4_4 ∧ u4_4 < ((u4_0.n : Nat) : Int))) (
 .ite (decide ((u4_2.n + 1) * 8 ≤ 140737488355328 ∧ (u4_2.n + 1) ≤ 1099511627776)) (
 .leaf (.next ((Sq.mk (u4_2.n + 1) (fun k2 => (cond (Nat.blt k2 u4_2.n) (u4_2.f k2) (u4_0.f (Int.toNat u4_4))))), u4_3, (wr (u4_4 + (1 : Int)))))) (
 .fail)) (
 .fail))) (
 .fail))) (
 .fail)) (
 .leaf (.l (u4_3, u4_2)))
def BD : LpM := ⟨(Sq Int) × Int, (Sq Int) × Bool × Int, Bool × (Sq Int), Bool × (Sq Int), fun p => ⟨[(0, sqA 1 (eI .i64) p.1.1), (1, .int .i64 p.1.2), (5, .own 64 0), (6, .bool p.2.2.1), (7, .int .i64 p.2.2.2)], [(64, rowA 0 1 3 (eI .i64) p.2.1)], 256⟩, fun f v => J2 f.1 f.2 v.1 v.2.1 v.2.2, false, (.exit 0), (fun x a => ⟨[(1, aget x.tm 1), (4, .undef), (5, .own 64 0), (6, .bool a.1)], [(64, rowA 0 1 3 (eI .i64) a.2)], 256⟩), .ret, (fun x a => ⟨[(1, aget x.tm 1), (4, aget x.tm 0), (5, .own 64 0), (6, .bool a.1)], [(64, rowA 0 1 3 (eI .i64) a.2)], 256⟩), c1, c1k⟩
def Uv (u4_0 : Sq Int) (u4_1 : Int) (u4_2 : Sq Int) (u4_3 : Bool) (u4_4 : Int) : Option ((Bool × (Sq Int)) ⊕ (Bool × (Sq Int))) := BD.val ((u4_0, u4_1), (u4_2, u4_3, u4_4))
theorem afX (u4_0 : Sq Int) (u4_1 : Int) (u4_2 : Sq Int) (u4_3 : Bool) (u4_4 : Int) : Uv u4_0 u4_1 u4_2 u4_3 u4_4 = fixO (fun v : (Sq Int) × Bool × Int => J2 u4_0 u4_1 v.1 v.2.1 v.2.2) (u4_2, u4_3, u4_4) := BD.val_eq (fun x => ((sqD dI (aget x.tm 0), intA (aget x.tm 1)), (sqB dI (blkS x 64), pU (aget x.tm 6), intA (aget x.tm 7)))) (fun p => by kernel_rfl) ((u4_0, u4_1), (u4_2, u4_3, u4_4))
def XA (l : Sq Int) (n : Int) : DT ((Sq Int)) :=
 .sum (Uv l n (Sq.mk 0 (fun _ => (0 : Int))) false (0 : Int)) (fun y0 =>
 .ite (!y0.1) (
 .ite (decide ((y0.2.n + 1) * 8 ≤ 140737488355328 ∧ (y0.2.n + 1) ≤ 1099511627776)) (.leaf (Sq.mk (y0.2.n + 1) (fun k3 => (cond (Nat.blt k3 y0.2.n) (y0.2.f k3) n)))) (.fail)) (
 .leaf y0.2)) (fun _ => .leaf l)
def Az : FnM := nfM ((Sq Int) × Int) ((Sq Int)) (fun p => ([sqA 1 (eI .i64) p.1, .int .i64 p.2], [])) (fun p => XA p.1 p.2) (fun r => sqA 1 (eI .i64) r) (fun _ _ => [])
def Ri : Env := envM [] [(4, [0, 1, 5, 6, 7], [1, 4, 5, 6])] [(4, BD.c)] [(1000004, [.asrow 64 3 1 (fun _ => (eI .i64) (0 : Int))]), (2000000, [.asrow 64 3 1 (fun _ => (eI .i64) (0 : Int)), .freeze 64])] [(4, [64])] 0
def adp : Env := { Ri with nt := 49 }
theorem SE : aQ adp (qd 4 Tryz.f58) BD.c := BD.tells 256 (fun _ => by kernel_rfl) (fun _ _ _ _ => by kernel_rfl) (fun _ _ _ _ => by kernel_rfl) fun R f v N K => by kernel_rfl
theorem YG : aI Tryz.prog 58 Az.c := Az.tells Tryz.func58 (show ∀ p, arun Ri Tryz.f58 (Az.enc p).1 (Az.enc p).2 = _ from fun p => by kernel_rfl) (qg [qd 4 Tryz.f58] (by kernel_rfl) ⟨lpT (by kernel_rfl) SE, trivial⟩) .nil
def abr (l : Sq Int) (n : Int) : Option ((Sq Int)) := Az.val (l, n)
theorem ahN (l : Sq Int) (n : Int) : abr l n = (XA l n).get := Az.val_eq (fun x => (sqD dI (gd x.1 0), intA (gd x.1 1))) (fun p => by kernel_rfl) (l, n)
def G7 (u5_0 : Sq qB) (u5_1 : Sq qG) (u5_2 : Sq qE) (u5_3 : Int) (u5_4 : Sq Int) (u5_5 : Sq Bool) (u5_6 : Int) (u5_7 : Sq qB) : DT (LR ((Sq Int) × (Sq Bool) × Int × (Sq qB)) ((Sq Int) × (Sq qB) × (Sq Bool)) (Unit)) :=
 .ite (decide (u5_6 < ((u5_2.n : Nat) : Int))) (
 .ite (decide ((0 : Int) ≤ u5_6 ∧ u5_6 < ((u5_2.n : Nat) : Int))) (
 .ite (decide ((u5_2.f (Int.toNat u5_6)).Sensor < (0 : Int))) (
 .leaf (.next (u5_4, u5_5, (wr (u5_6 + (1 : Int))), u5_7))) (
 .ite (decide ((u5_2.f (Int.toNat u5_6)).Sensor ≥ ((u5_1.n : Nat) : Int))) (
 .leaf (.next (u5_4, u5_5, (wr (u5_6 + (1 : Int))), u5_7))) (
 .ite (decide ((0 : Int) ≤ (u5_2.f (Int.toNat u5_6)).Sensor ∧ (u5_2.f (Int.toNat u5_6)).Sensor < ((u5_1.n : Nat) : Int))) (
 .ite ((u5_1.f (Int.toNat (u5_2.f (Int.toNat u5_6)).Sensor)).Kind != (3 : Int)) (
 .leaf (.next (u5_4, u5_5, (wr (u5_6 + (1 : Int))), u5_7))) (
 .ite (decide ((0 : Int) ≤ (u5_2.f (Int.toNat u5_6)).Sensor ∧ (u5_2.f (Int.toNat u5_6)).Sensor < ((u5_1.n : Nat) : Int))) (
 .ite (decide ((u5_1.f (Int.toNat (u5_2.f (Int.toNat u5_6)).Sensor)).Target < (0 : Int))) (
 .leaf (.next (u5_4, u5_5, (wr (u5_6 + (1 : Int))), u5_7))) (
 .ite (decide ((0 : Int) ≤ (u5_2.f (Int.toNat u5_6)).Sensor ∧ (u5_2.f (Int.toNat u5_6)).Sensor < ((u5_1.n : Nat) : Int))) (
 .ite (decide ((u5_1.f (Int.toNat (u5_2.f (Int.toNat u5_6)).Sensor)).Target ≥ ((u5_0.n : Nat) : Int))) (
 .leaf (.next (u5_4, u5_5, (wr (u5_6 + (1 : Int))), u5_7))) (
 .ite (decide ((0 : Int) ≤ (u5_2.f (Int.toNat u5_6)).Sensor ∧ (u5_2.f (Int.toNat u5_6)).Sensor < ((u5_1.n : Nat) : Int))) (
 .ite (decide ((0 : Int) ≤ (u5_1.f (Int.toNat (u5_2.f (Int.toNat u5_6)).Sensor)).Target ∧ (u5_1.f (Int.toNat (u5_2.f (Int.toNat u5_6)).Sensor)).Target < ((u5_5.n : Nat) : Int))) (
 .ite (u5_5.f (Int.toNat (u5_1.f (Int.toNat (u5_2.f (Int.toNat u5_6)).Sensor)).Target)) (
 .leaf (.next (u5_4, u5_5, (wr (u5_6 + (1 : Int))), u5_7))) (
 .ite (decide ((0 : Int) ≤ (u5_2.f (Int.toNat u5_6)).Sensor ∧ (u5_2.f (Int.toNat u5_6)).Sensor < ((u5_1.n : Nat) : Int))) (
 .ite (decide ((0 : Int) ≤ (u5_1.f (Int.toNat (u5_2.f (Int.toNat u5_6)).Sensor)).Target ∧ (u5_1.f (Int.toNat (u5_2.f (Int.toNat u5_6)).Sensor)).Target < ((u5_7.n : Nat) : Int))) (
 .ite (decide ((0 : Int) ≤ (u5_2.f (Int.toNat u5_6)).Sensor ∧ (u5_2.f (Int.toNat u5_6)).Sensor < ((u5_1.n : Nat) : Int))) (
 .ite (decide ((0 : Int) ≤ u5_6 ∧ u5_6 < ((u5_2.n : Nat) : Int))) (
 .bind (adg (u5_1.f (Int.toNat (u5_2.f (Int.toNat u5_6)).Sensor)) (u5_2.f (Int.toNat u5_6)) u5_3) fun z0 =>
 .bind (Yt (Sq.mk 2 (fun k0 => (qB.mk (cond (Nat.beq k0 0) (u5_7.f (Int.toNat (u5_1.f (Int.toNat (u5_2.f (Int.toNat u5_6)).Sensor)).Target)).Low z0.Low) (cond (Nat.beq k0 0) (u5_7.f (Int.toNat (u5_1.f (Int.toNat (u5_2.f (Int.toNat u5_6)).Sensor)).Target)).High z0.High))))) fun z1 =>
 .ite (decide ((0 : Int) ≤ (u5_1.f (Int.toNat (u5_2.f (Int.toNat u5_6)).Sensor)).Target ∧ (u5_1.f (Int.toNat (u5_2.f (Int.toNat u5_6)).Sensor)).Target < ((u5_7.n : Nat) : Int))) (
 .ite (!z1.2) (
 .ite (decide ((0 : Int) ≤ (u5_1.f (Int.toNat (u5_2.f (Int.toNat u5_6)).Sensor)).Target ∧ (u5_1.f (Int.toNat (u5_2.f (Int.toNat u5_6)).Sensor)).Target < ((u5_5.n : Nat) : Int))) (
 .bind (abr u5_4 (u5_2.f (Int.toNat u5_6)).Sensor) fun z2 =>
 .leaf (.next (z2, (Sq.mk u5_5.n (fun k1 => (cond (Nat.beq k1 (Int.toNat (u5_1.f (Int.toNat (u5_2.f (Int.toNat u5_6)).Sensor)).Target)) true (u5_5.f k1)))), (wr (u5_6 + (1 : Int))), (Sq.mk u5_7.n (fun k2 => (qB.mk (cond (Nat.beq k2 (Int.toNat (u5_1.f (Int.toNat (u5_2.f (Int.toNat u5_6)).Sensor)).Target)) z1.1.Low (u5_7.f k2).Low) (cond (Nat.beq k2 (Int.toNat (u5_1.f (Int.toNat (u5_2.f (Int.toNat u5_6)).Sensor)).Target)) z1.1.High (u5_7.f k2).High))))))) (
 .fail)) (
 .leaf (.next (u5_4, u5_5, (wr (u5_6 + (1 : Int))), (Sq.mk u5_7.n (fun k3 => (qB.mk (cond (Nat.beq k3 (Int.toNat (u5_1.f (Int.toNat (u5_2.f (Int.toNat u5_6)).Sensor)).Target)) z1.1.Low (u5_7.f k3).Low) (cond (Nat.beq k3 (Int.toNat (u5_1.f (Int.toNat (u5_2.f (Int.toNat u5_6)).Sensor)).Target)) z1.1.High (u5_7.f k3).High)))))))) (
 .fail)) (
 .fail)) (
 .fail)) (
 .fail)) (
 .fail))) (
 .fail)) (
 .fail))) (
 .fail))) (
 .fail))) (
 .fail)))) (
 .fail)) (
 .leaf (.l (u5_4, u5_7, u5_5)))
def yG : LpM := ⟨(Sq qB) × (Sq qG) × (Sq qE) × Int, (Sq Int) × (Sq Bool) × Int × (Sq qB), (Sq Int) × (Sq qB) × (Sq Bool), Unit, fun p => ⟨[(0, sqA 2 qB.enc p.1.1), (1, sqA 8 qG.enc p.1.2.1), (2, sqA 4 qE.enc p.1.2.2.1), (3, .int .i64 p.1.2.2.2), (10, .own 192 0), (11, .own 448 0), (12, sqA 1 (eI .i64) p.2.1), (13, .int .i64 p.2.2.2.1)], [(192, rowA 0 2 51 qB.enc p.2.2.2.2), (448, rowA 0 1 4 eO p.2.2.1), (576, .dead 0)], 704⟩, fun f v => G7 f.1 f.2.1 f.2.2.1 f.2.2.2 v.1 v.2.1 v.2.2.1 v.2.2.2, true, (.exit 0), (fun _ a => ⟨[(10, .own 192 0), (12, sqA 1 (eI .i64) a.1)], [(192, rowA 0 2 51 qB.enc a.2.1), (448, rowA 0 1 4 eO a.2.2), (576, .dead 0)], 704⟩), .ret, (fun _ _ => ⟨[], [], 0⟩), c1, c1k⟩
def OL (u5_0 : Sq qB) (u5_1 : Sq qG) (u5_2 : Sq qE) (u5_3 : Int) (u5_4 : Sq Int) (u5_5 : Sq Bool) (u5_6 : Int) (u5_7 : Sq qB) : Option (((Sq Int) × (Sq qB) × (Sq Bool)) ⊕ (Unit)) := yG.val ((u5_0, u5_1, u5_2, u5_3), (u5_4, u5_5, u5_6, u5_7))
theorem aeN (u5_0 : Sq qB) (u5_1 : Sq qG) (u5_2 : Sq qE) (u5_3 : Int) (u5_4 : Sq Int) (u5_5 : Sq Bool) (u5_6 : Int) (u5_7 : Sq qB) : OL u5_0 u5_1 u5_2 u5_3 u5_4 u5_5 u5_6 u5_7 = fixO (fun v : (Sq Int) × (Sq Bool) × Int × (Sq qB) => G7 u5_0 u5_1 u5_2 u5_3 v.1 v.2.1 v.2.2.1 v.2.2.2) (u5_4, u5_5, u5_6, u5_7) := yG.val_eq (fun x => ((sqD qB.dec (aget x.tm 0), sqD qG.dec (aget x.tm 1), sqD qE.dec (aget x.tm 2), intA (aget x.tm 3)), (sqD dI (aget x.tm 12), sqB dO (blkS x 448), intA (aget x.tm 13), sqB qB.dec (blkS x 192)))) (fun p => by kernel_rfl) ((u5_0, u5_1, u5_2, u5_3), (u5_4, u5_5, u5_6, u5_7))
def Rn (flows : Sq qB) (l : Sq qG) (m : Sq qE) (time : Int) : DT ((Sq qB) × (Sq Int)) :=
 .ite (decide (flows.n * 16 ≤ 140737488355328 ∧ flows.n ≤ 1099511627776)) (
 .ite (decide ((0 : Int) ≤ ((flows.n : Nat) : Int) ∧ ((flows.n : Nat) : Int) ≤ ((flows.n : Nat) : Int) ∧ ((flows.n : Nat) : Int) * ((1 : Nat) : Int) ≤ 140737488355328 ∧ ((flows.n : Nat) : Int) ≤ 1099511627776)) (
 .sum (OL flows l m time (Sq.mk 0 (fun _ => (0 : Int))) (Sq.mk (Int.toNat ((flows.n : Nat) : Int)) (fun _ => false)) (0 : Int) flows) (fun y0 =>
 .leaf (y0.2.1, y0.1)) (fun _ => .fail)) (
 .fail)) (
 .fail)
def xu : FnM := nfM ((Sq qB) × (Sq qG) × (Sq qE) × Int) ((Sq qB) × (Sq Int)) (fun p => ([sqA 2 qB.enc p.1, sqA 8 qG.enc p.2.1, sqA 4 qE.enc p.2.2.1, .int .i64 p.2.2.2], [])) (fun p => Rn p.1 p.2.1 p.2.2.1 p.2.2.2) (fun r => .tup [.own 0 0, sqA 1 (eI .i64) r.2]) (fun _ r => [rowA 0 2 51 qB.enc r.1])
def MN : Env := envM [(57, EF.c), (56, zR.c), (58, Az.c)] [(5, [0, 1, 2, 3, 10, 11, 12, 13], [10, 12])] [(5, yG.c)] [(14, [.asrow 576 3 1 (fun _ => (eI .i64) (0 : Int)), .freeze 576]), (1000005, [.asrow 576 3 1 (fun _ => (eI .i64) (0 : Int)), .freeze 576])] [(5, [192, 448, 576])] 0
def abx : Env := { MN with nt := 116 }
theorem Pg : aQ abx (qd 5 Tryz.f26) yG.c := yG.tells 704 (fun _ => by kernel_rfl) (fun _ _ _ _ => by kernel_rfl) (fun _ _ _ _ => by kernel_rfl) fun R f v N K => by kernel_rfl
theorem Vx : aI Tryz.prog 26 xu.c := xu.tells Tryz.func26 (show ∀ p, arun MN Tryz.f26 (xu.enc p).1 (xu.enc p).2 = _ from fun p => by kernel_rfl) (qg [qd 5 Tryz.f26] (by kernel_rfl) ⟨lpT (by kernel_rfl) Pg, trivial⟩) (.cons TY (.cons OB (.cons YG .nil)))
def NC (flows : Sq qB) (l : Sq qG) (m : Sq qE) (time : Int) : Option ((Sq qB) × (Sq Int)) := xu.val (flows, l, m, time)
theorem agG (flows : Sq qB) (l : Sq qG) (m : Sq qE) (time : Int) : NC flows l m time = (Rn flows l m time).get := xu.val_eq (fun x => (sqD qB.dec (gd x.1 0), sqD qG.dec (gd x.1 1), sqD qE.dec (gd x.1 2), intA (gd x.1 3))) (fun p => by kernel_rfl) (flows, l, m, time)
end
end Go.Proofs.YtimkpfnbkclclaaGreat.Ab
