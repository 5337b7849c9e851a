/- A part of the proof, what is needed of it. -/
import Derived.Test.YtimkpfnbkclclaaGreatPj19
namespace Go.Proofs.YtimkpfnbkclclaaGreat.Ab
noncomputable section
open Go
theorem aj7 {a : SAir} {s : qz} (h : aiR a s = true) : airE a = 0 := by
  unfold aiR at h
  split at h
  · rename_i q; exact q.1
  · cases h
structure JnOf (a : SAir) (s : qz) (P : Sq Int) (pl : Int) (l : Sq Int) (J : qM) : Prop where
  plE : J.place_ = pl
  prE : J.pressures_ = P
  PE : J.air_.Mine.Places = a.Mine.Places
  rt : aiR J.air_ J.setting_ = true
  rd : ajA a.Mine.Roads pl a.Mine.Roads.n l
  nn : J.air_.Mine.Roads.n = l.n
  rr : ∀ j, j < l.n → J.air_.Mine.Roads.f j = a.Mine.Roads.f (l.f j).toNat
  dd : ∀ j, j < l.n → ∀ x, aiS J.air_ J.setting_ j x = aiS a s (l.f j).toNat x
theorem aoC {a : SAir} {s : qz} (ok : RtOK a s) {pl : Int} {l : Sq Int} (h : ajA a.Mine.Roads pl a.Mine.Roads.n l) {R : Sq qC} (hR : R.n = l.n) (hr : ∀ j, j < l.n → R.f j = a.Mine.Roads.f (l.f j).toNat)
    {F : Sq SFan} {t : Sq Int} (hF : JF a s l a.Fans.n F t) {D : Sq qD} {u : Sq Int} (hD : JD a s l a.Doors.n D u) : aiR ⟨⟨a.Mine.Places, R⟩, F, D⟩ ⟨t, u⟩ = true := by
  have nr := ok.m.nr
  have np := ok.m.np
  have hn := h.n
  have fn := hF.n
  have dn := hD.n
  have nf := ok.nf
  have nd := ok.nd
  have ft := hF.tn
  have dt := hD.tn
  have m : aja ⟨a.Mine.Places, R⟩ := ⟨np, by dsimp only; omega, ok.m.h, fun i hi => by
    dsimp only at hi ⊢
    have := h.f i (by omega)
    rw [hr i (by omega)]; exact ok.m.r _ (by omega)⟩
  have e1 : ajR F R.n = 0 := by
    unfold ajR
    rw [if_neg (by omega), oL fun i _ hi => ?_]
    unfold gF
    obtain ⟨f1, f2, f3, _⟩ := hF.f i (by omega)
    rw [if_neg (by omega), if_pos (by omega)]
  have e2 : ajh D = 0 := by
    unfold ajh
    rw [if_neg (by omega), oL fun i _ hi => ?_]
    unfold gDo
    obtain ⟨f1, f2, _⟩ := hD.f i (by omega)
    rw [if_pos (f1.to f2)]
  have e3 : aji D R.n = 0 := by
    unfold aji
    rw [e2, if_neg (by omega), oL fun i _ hi => ?_]
    unfold gDr
    obtain ⟨f1, f2, f3, _⟩ := hD.f i (by omega)
    have := f1.r
    rw [if_pos (by omega)]
  unfold aiR
  rw [if_pos]
  refine ⟨?_, ft, dt, oL fun i _ hi => ?_, oL fun i _ hi => ?_⟩
  · unfold airE
    dsimp only
    rw [(ajH _).2 m, if_neg (by omega), e1, if_neg (by omega), e3]
  · dsimp only at hi ⊢
    unfold gSf
    have := hF.f i (by omega)
    rw [if_pos (by omega)]
  · dsimp only at hi ⊢
    unfold gSd
    have := hD.f i (by omega)
    rw [if_pos (by omega)]
theorem apn {a : SAir} {s : qz} {pl : Int} {l : Sq Int} (h : ajA a.Mine.Roads pl a.Mine.Roads.n l) {R : Sq qC} (hr : ∀ j, j < l.n → R.f j = a.Mine.Roads.f (l.f j).toNat)
    {F : Sq SFan} {t : Sq Int} (hF : JF a s l a.Fans.n F t) {D : Sq qD} {u : Sq Int} (hD : JD a s l a.Doors.n D u) {j : Nat} (hj : j < l.n) (x : Int) : aiS ⟨⟨a.Mine.Places, R⟩, F, D⟩ ⟨t, u⟩ j x = aiS a s (l.f j).toNat x := by
  have b := h.f j hj
  unfold aiS
  dsimp only
  rw [hr j hj, hD.e j hj, hF.e j hj, show (((l.f j).toNat : Nat) : Int) = l.f j by omega]
theorem ajG {a : SAir} {s : qz} (h : aiR a s = true) (P : Sq Int) (pl : Int) : ∃ l J, BL a s P pl = some J ∧ JnOf a s P pl l J := by
  have ok := aiU h
  have hD := (aj0 (ajZ (aj7 h)).2.2).2.1
  obtain ⟨l, el, hl⟩ := akv (m := a.Mine) ok.m.nr pl
  rw [adH]; unfold H6
  rw [get_bind el]
  obtain ⟨R, eR, nR, hR⟩ := aoD (s := s) (P := P) hl rfl ok.m.nr ⟨0, fun _ => ⟨0, 0, 0, 0, false, false, ⟨0, 0⟩, ⟨0, 0⟩⟩⟩ rfl
  rw [pV eR]
  dsimp only [Sum.elim]
  obtain ⟨F, t, eF, hF⟩ := apo (P := P) ok hl R ⟨0, fun _ => ⟨0, false, false, ⟨0, fun _ => ⟨0, 0⟩⟩⟩⟩ ⟨0, fun _ => 0⟩ rfl rfl
  rw [pV eF]
  dsimp only [Sum.elim]
  obtain ⟨D, u, eD, hD⟩ := aoB (P := P) ok (fun i hi => .of (hD i hi)) hl R F t ⟨0, fun _ => ⟨0, 0, ⟨0, fun _ => 0⟩⟩⟩ ⟨0, fun _ => 0⟩ rfl rfl
  rw [pV eD]
  exact ⟨l, _, rfl, rfl, rfl, rfl, aoC ok hl nR hR hF hD, hl, nR, hR, fun j hj x => apn hl hR hF hD hj x⟩
theorem akV {m : qI} (hm : m.Roads.n ≤ 128) {j : Nat} (hj : j < m.Roads.n) {pl : Int} (h : adj (m.Roads.f j) pl) : Yh m j pl = some (if (m.Roads.f j).From = pl then (m.Roads.f j).To else (m.Roads.f j).From) := by
  have e : Za m j = some true := by
    rw [agZ]; unfold TQ
    rw [oW (by omega) (by omega), get_bind (ajI _ _ _), decide_eq_true (by omega)]; rfl
  rw [ah1]; unfold Y6
  rw [get_bind e, qm (b := !true) rfl, qo (dix hj), pI]
  by_cases c : (m.Roads.f j).From = pl
  · rw [qo (by simpa using c.symm), if_pos c]; rfl
  · have c2 : (m.Roads.f j).To = pl := h.resolve_left c
    rw [qm (by simpa using fun q : pl = _ => c q.symm), qo (by simpa using c2.symm), if_neg c]; rfl
theorem JnOf.flow {a : SAir} {s : qz} {P : Sq Int} {pl : Int} {l : Sq Int} {J : qM} (h : JnOf a s P pl l J) (ok : RtOK a s) {j : Nat} (hj : j < l.n) (q : Int) :
    Jj J.air_ J.setting_ j q = some (if (a.Mine.Roads.f (l.f j).toNat).Closed = true then ⟨0, 0⟩ else ⟨flL a s (l.f j).toNat q, flH a s (l.f j).toNat q⟩) := by
  have b := h.rd.f j hj
  have hi : (l.f j).toNat < a.Mine.Roads.n := by omega
  have er := h.rr j hj
  have hn := h.nn
  rcases akb J.air_ J.setting_ j q with ⟨o, S, e, c⟩ | ⟨o, e⟩
  · have o2 := o.2.2.2
    rw [pI, er] at o2
    rw [e, if_neg (by rw [o2]; simp)]
    congr 1
    have e1 : (fun x => (aiS J.air_ J.setting_ j x).2 > q) = (fun x => (aiS a s (l.f j).toNat x).2 > q) := funext fun x => by rw [h.dd j hj x]
    have e2 : (fun x => (aiS J.air_ J.setting_ j x).1 ≥ q) = (fun x => (aiS a s (l.f j).toNat x).1 ≥ q) := funext fun x => by rw [h.dd j hj x]
    have c1 := c.l
    have c2 := c.h
    rw [pI] at c1 c2
    rw [e1] at c1
    rw [e2] at c2
    exact akZ.eq (a := a) (s := s) (i := (l.f j).toNat) (p := q) ⟨c1, c2⟩ ⟨(ak5 ok hi q).2, (ak4 ok hi q).2⟩
  · rw [e]
    by_cases cl : (a.Mine.Roads.f (l.f j).toNat).Closed = true
    · rw [if_pos cl]
    · exact absurd ⟨h.rt, by omega, by omega, by rw [pI, er]; simpa using cl⟩ o
theorem aoa {a : SAir} {s : qz} {P : Sq Int} {pl : Int} {l : Sq Int} {J : qM} (h : JnOf a s P pl l J) (ok : RtOK a s) (hP : aiV a P) {p : Int} (p0 : -70368744177664 ≤ p) (p1 : p ≤ 70368744177664) {j : Nat} (hj : j < l.n) :
    Ew J j p = some ⟨coL a s P pl p (l.f j).toNat, coH a s P pl p (l.f j).toNat⟩ := by
  have b := h.rd.f j hj
  have hn := h.nn
  have hln := h.rd.n
  have nr := ok.m.nr
  have pn := hP.n
  have hi : (l.f j).toNat < a.Mine.Roads.n := by omega
  have er := h.rr j hj
  obtain ⟨f0, f1, t0, t1, ne⟩ := ai2 ok.m hi
  have bF := hP.f (a.Mine.Roads.f (l.f j).toNat).From.toNat (by omega)
  have bT := hP.f (a.Mine.Roads.f (l.f j).toNat).To.toNat (by omega)
  have eo := akV (m := J.air_.Mine) (by omega) (j := j) (by omega) (pl := pl) (by rw [er]; exact b.2.2)
  rw [er] at eo
  rw [aax]; unfold Dn
  rw [h.plE, h.prE, get_bind eo, pI, er]
  by_cases c : (a.Mine.Roads.f (l.f j).toNat).From = pl
  · rw [if_pos c, qo (decide_eq_true ⟨t0, by omega⟩), qo (dix (by omega)), qo (by simpa using c), pJ (by omega) (by omega), get_bind (h.flow ok hj _)]
    unfold coL coH
    by_cases cl : (a.Mine.Roads.f (l.f j).toNat).Closed = true
    · rw [if_pos cl, if_pos cl, if_pos cl]; rfl
    · rw [if_neg cl, if_neg cl, if_neg cl, if_pos c, if_pos c]; rfl
  · have c2 : (a.Mine.Roads.f (l.f j).toNat).To = pl := b.2.2.resolve_left c
    rw [if_neg c, qo (decide_eq_true ⟨f0, by omega⟩), qo (dix (by omega)), qm (by simpa using c), pJ (by omega) (by omega), get_bind (h.flow ok hj _)]
    unfold coL coH
    by_cases cl : (a.Mine.Roads.f (l.f j).toNat).Closed = true
    · rw [if_pos cl, if_pos cl, if_pos cl]; rfl
    · have q := amU ok hi (P.f (a.Mine.Roads.f (l.f j).toNat).From.toNat - p)
      rw [if_neg cl, if_neg cl, if_neg cl, if_neg c, if_neg c, if_pos c2, if_pos c2]
      dsimp only
      rw [pJ (by omega) (by omega), pJ (by omega) (by omega), Int.zero_sub, Int.zero_sub]; rfl
theorem aoT {a : SAir} {s : qz} {P : Sq Int} {pl p : Int} (i : Nat) : (if adj (a.Mine.Roads.f i) pl then coL a s P pl p i else 0) = coL a s P pl p i ∧ (if adj (a.Mine.Roads.f i) pl then coH a s P pl p i else 0) = coH a s P pl p i := by
  by_cases h : adj (a.Mine.Roads.f i) pl
  · rw [if_pos h, if_pos h]; exact ⟨rfl, rfl⟩
  · rw [if_neg h, if_neg h]
    unfold coL coH
    have h1 : ¬ (a.Mine.Roads.f i).From = pl := fun q => h (.inl q)
    have h2 : ¬ (a.Mine.Roads.f i).To = pl := fun q => h (.inr q)
    constructor
    all_goals
      simp only [if_neg h1, if_neg h2, ite_self]
theorem aoE {a : SAir} {s : qz} {P : Sq Int} {pl : Int} {l : Sq Int} {J : qM} (h : JnOf a s P pl l J) (ok : RtOK a s) (hP : aiV a P) {p : Int} (p0 : -70368744177664 ≤ p) (p1 : p ≤ 70368744177664) :
    ES p J.air_.Mine.Places J.pressures_ J.place_ J.air_.Mine.Roads J.air_.Fans J.air_.Doors J.setting_.Fans J.setting_.Doors 0 0 0 = some (.inl (NL a s P pl p, NH a s P pl p)) := by
  have hn := h.nn
  have hln := h.rd.n
  have nr := ok.m.nr
  have e1 : sumN (fun j => coL a s P pl p (l.f j).toNat) l.n = NL a s P pl p := by rw [h.rd.s (coL a s P pl p)]; exact ai0 fun i _ => (aoT i).1
  have e2 : sumN (fun j => coH a s P pl p (l.f j).toNat) l.n = NH a s P pl p := by rw [h.rd.s (coH a s P pl p)]; exact ai0 fun i _ => (aoT i).2
  have b1 : ∀ i, i ≤ l.n → -1000000000 ≤ sumN (fun j => coL a s P pl p (l.f j).toNat) i ∧ sumN (fun j => coL a s P pl p (l.f j).toNat) i ≤ 1000000000 := fun i hi => by
    have := akS (g := fun j => coL a s P pl p (l.f j).toNat) (n := i) fun j hj => by have := h.rd.f j (by omega); have := amP ok P pl p (i := (l.f j).toNat) (by omega); omega
    omega
  have b2 : ∀ i, i ≤ l.n → -1000000000 ≤ sumN (fun j => coH a s P pl p (l.f j).toNat) i ∧ sumN (fun j => coH a s P pl p (l.f j).toNat) i ≤ 1000000000 := fun i hi => by
    have := akS (g := fun j => coH a s P pl p (l.f j).toNat) (n := i) fun j hj => by have := h.rd.f j (by omega); have := amP ok P pl p (i := (l.f j).toNat) (by omega); omega
    omega
  rw [abH]
  refine (pR (step := fun v : Int × Int × Int => BM p J.air_.Mine.Places J.pressures_ J.place_ J.air_.Mine.Roads J.air_.Fans J.air_.Doors J.setting_.Fans J.setting_.Doors v.1 v.2.1 v.2.2)
    (fun i => ((i : Int), sumN (fun j => coL a s P pl p (l.f j).toNat) i, sumN (fun j => coH a s P pl p (l.f j).toNat) i)) l.n (z := .l (NL a s P pl p, NH a s P pl p)) (fun i hi => ?_) ?_).trans rfl
  · dsimp only
    unfold BM
    have c1 := b1 (i + 1) (by omega)
    have c2 := b2 (i + 1) (by omega)
    rw [qo (dlt (by omega)), get_bind (show Ew _ _ _ = _ from aoa h ok hP p0 p1 hi), qc (by omega)]
    dsimp only
    rw [pJ (x := sumN (fun j => coL a s P pl p (l.f j).toNat) i + coL a s P pl p (l.f i).toNat) (Int.le_trans (by omega) c1.1) (Int.le_trans c1.2 (by omega)), pJ (x := sumN (fun j => coH a s P pl p (l.f j).toNat) i + coH a s P pl p (l.f i).toNat) (Int.le_trans (by omega) c2.1) (Int.le_trans c2.2 (by omega))]
    rfl
  · dsimp only
    unfold BM
    rw [qm (dge (by omega)), e1, e2]; rfl
theorem apr {a : SAir} {s : qz} {P : Sq Int} {pl : Int} {l : Sq Int} {J : qM} (h : JnOf a s P pl l J) (ok : RtOK a s) (hP : aiV a P) {p : Int} (p0 : -70368744177664 ≤ p) (p1 : p ≤ 70368744177664) :
    yZ J p = some ⟨NL a s P pl p, NH a s P pl p⟩ := by
  rw [ac2]; unfold FJ
  rw [pV (aoE h ok hP p0 p1)]; rfl
structure PrOK (a : SAir) (s : qz) (P : Sq Int) (pl : Int) : Prop where
  rt : aiR a s = true
  Pp : aiV a P
  p0 : 0 ≤ pl
  p1 : pl < P.n
def gPr (P : Sq Int) (k : Nat) : Option Unit := if -70368744177664 ≤ P.f k ∧ P.f k ≤ 70368744177664 then none else some ()
theorem amY {P : Sq Int} (h : P.n ≤ 64) : LY P 0 = some (sumO (bn (gPr P) P.n 0)) := by
  rw [aei, ← aiX]
  refine oM (step := fun v => FL P v) (gPr P) (fun i hi => ?_) ?_ P.n 0 (Nat.zero_add _)
  · unfold FL gPr
    have e : Li (P.f i) (-70368744177664) 70368744177664 = some (decide (-70368744177664 ≤ P.f i ∧ P.f i ≤ 70368744177664)) := by
      rw [afv]; unfold Oa
      by_cases c : -70368744177664 ≤ P.f i
      · rw [qo (decide_eq_true c)]; simp [c]
      · rw [qm (decide_eq_false c)]; simp [c]
    rw [qo (dlt hi), qo (dix hi), pI, qc (by omega), get_bind e]
    by_cases c : -70368744177664 ≤ P.f i ∧ P.f i ≤ 70368744177664
    · rw [if_pos c, qm (by simp only [decide_eq_true c, Bool.not_true])]; rfl
    · rw [if_neg c, qo (by simp only [decide_eq_false c, Bool.not_false])]; rfl
  · unfold FL
    rw [qm (dge (Nat.le_refl _))]; rfl
theorem al4 (a : SAir) (s : qz) (P : Sq Int) (pl : Int) : (PrOK a s P pl ∧ Gq a s P pl = some true) ∨ (¬ PrOK a s P pl ∧ Gq a s P pl = some false) := by
  rw [afu]; unfold N9
  rw [get_bind (ajy a s)]
  by_cases hr : aiR a s = true
  · have ok := aiU hr
    have np := ok.m.np
    rw [hr, qm (b := !true) rfl]
    by_cases hn : P.n = a.Mine.Places.n
    · have e0 : (((P.n : Nat) : Int) != ((a.Mine.Places.n : Nat) : Int)) = false := by rw [hn]; simp
      rw [qm e0]
      have ew : Li pl 0 (wr (((P.n : Nat) : Int) - 1)) = some (decide (0 ≤ pl ∧ pl < P.n)) := by
        rw [pJ (by omega) (by omega), afv]; unfold Oa
        by_cases c : 0 ≤ pl
        · rw [qo (decide_eq_true c)]
          show some (decide (pl ≤ (P.n : Int) - 1)) = _
          by_cases c2 : pl < P.n
          · rw [decide_eq_true (show pl ≤ (P.n : Int) - 1 by omega), decide_eq_true ⟨c, c2⟩]
          · rw [decide_eq_false (show ¬ pl ≤ (P.n : Int) - 1 by omega), decide_eq_false (by omega)]
        · rw [qm (decide_eq_false c)]
          show some false = _
          rw [decide_eq_false (by omega)]
      rw [get_bind ew]
      by_cases c : 0 ≤ pl ∧ pl < P.n
      · rw [qm (by simp only [decide_eq_true c, Bool.not_true]), pV (amY (by omega))]
        cases hf : bn (gPr P) P.n 0 with
        | none =>
          refine .inl ⟨⟨hr, ⟨hn, fun k hk => ?_⟩, c.1, c.2⟩, rfl⟩
          have := oh hf k (Nat.zero_le _) (by omega)
          unfold gPr at this
          by_cases q : -70368744177664 ≤ P.f k ∧ P.f k ≤ 70368744177664
          · exact q
          · rw [if_neg q] at this; cases this
        | some b =>
          refine .inr ⟨fun h => ?_, rfl⟩
          obtain ⟨j, _, hj, e, _⟩ := om hf
          unfold gPr at e
          rw [if_pos (h.Pp.f j (by omega))] at e; cases e
      · rw [qo (by simp only [decide_eq_false c, Bool.not_false])]
        exact .inr ⟨fun h => c ⟨h.p0, h.p1⟩, rfl⟩
    · have e0 : (((P.n : Nat) : Int) != ((a.Mine.Places.n : Nat) : Int)) = true := by simp; omega
      rw [qo e0]
      exact .inr ⟨fun h => hn h.Pp.n, rfl⟩
  · have hr' : aiR a s = false := by simpa using hr
    rw [hr', qo (b := !false) rfl]
    exact .inr ⟨fun h => hr h.rt, rfl⟩
def netS (a : SAir) (s : qz) (P : Sq Int) (pl : Int) : qB := ⟨NL a s P pl (P.f pl.toNat), NH a s P pl (P.f pl.toNat)⟩
theorem akn {a : SAir} {s : qz} {P : Sq Int} {pl : Int} (h : PrOK a s P pl) : U1 a s P pl = some (netS a s P pl) := by
  have p0 := h.p0
  have p1 := h.p1
  have b := h.Pp.f pl.toNat (by omega)
  obtain ⟨l, J, eJ, hJ⟩ := ajG h.rt P pl
  rcases al4 a s P pl with ⟨_, e⟩ | ⟨n, _⟩
  · rw [ahh]; unfold VZ
    rw [get_bind e, qm (b := !true) rfl, get_bind eJ, qo (decide_eq_true ⟨p0, p1⟩), get_bind (apr hJ (aiU h.rt) h.Pp b.1 b.2)]; rfl
  · exact absurd h n
end
end Go.Proofs.YtimkpfnbkclclaaGreat.Ab
