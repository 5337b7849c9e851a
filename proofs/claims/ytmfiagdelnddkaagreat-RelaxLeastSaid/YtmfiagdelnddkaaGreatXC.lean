/- Stage 10: what leaves a place, by the program and by the document. -/
import Derived.Test.YtmfiagdelnddkaaGreatXB
namespace Go.Proofs.YtmfiagdelnddkaaGreat.Ab
noncomputable section
open Go
theorem Da {a : SAir} {s : au} (h : aZ a s = true) : airE a = 0 := by
  unfold aZ at h
  split at h
  · rename_i q; exact q.1
  · cases h
structure JnOf (a : SAir) (s : au) (P : Sq Int) (pl : Int) (l : Sq Int) (J : aU) : Prop where
  plE : J.place_ = pl
  prE : J.pressures_ = P
  PE : J.air_.Mine.Places = a.Mine.Places
  rt : aZ J.air_ J.setting_ = true
  rd : GQ a.Mine.Roads pl a.Mine.Roads.n l
  nn : J.air_.Mine.Roads.n = l.n
  rr : ∀ j, j < l.n → J.air_.Mine.Roads.f j = a.Mine.Roads.f (l.f j).toNat
  dd : ∀ j, j < l.n → ∀ x, cK J.air_ J.setting_ j x = cK a s (l.f j).toNat x
theorem aiy {a : SAir} {s : au} (ok : RtOK a s) {pl : Int} {l : Sq Int} (h : GQ a.Mine.Roads pl a.Mine.Roads.n l) {R : Sq aB} (hR : R.n = l.n) (hr : ∀ j, j < l.n → R.f j = a.Mine.Roads.f (l.f j).toNat)
    {F : Sq SFan} {t : Sq Int} (hF : JF a s l a.Fans.n F t) {D : Sq aC} {u : Sq Int} (hD : JD a s l a.Doors.n D u) : aZ ⟨⟨a.Mine.Places, R⟩, F, D⟩ ⟨t, u⟩ = true := by
  have nr := ok.m.nr
  have np := ok.m.np
  have hn := h.n
  have fn := hF.n
  have dn := hD.n
  have nf := ok.nf
  have nd := ok.nd
  have ft := hF.tn
  have dt := hD.tn
  have m : uV ⟨a.Mine.Places, R⟩ := ⟨np, by dsimp only; omega, ok.m.h, fun i hi => by
    dsimp only at hi ⊢
    have := h.f i (by omega)
    rw [hr i (by omega)]; exact ok.m.r _ (by omega)⟩
  have e1 : Mi F R.n = 0 := by
    unfold Mi
    rw [if_neg (by omega), dx fun i _ hi => ?_]
    unfold gF
    obtain ⟨f1, f2, f3, _⟩ := hF.f i (by omega)
    rw [if_neg (by omega), if_pos (by omega)]
  have e2 : zM D = 0 := by
    unfold zM
    rw [if_neg (by omega), dx fun i _ hi => ?_]
    unfold gDo
    obtain ⟨f1, f2, _⟩ := hD.f i (by omega)
    rw [if_pos (f1.to f2)]
  have e3 : zN D R.n = 0 := by
    unfold zN
    rw [e2, if_neg (by omega), dx fun i _ hi => ?_]
    unfold gDr
    obtain ⟨f1, f2, f3, _⟩ := hD.f i (by omega)
    have := f1.r
    rw [if_pos (by omega)]
  unfold aZ
  rw [if_pos]
  refine ⟨?_, ft, dt, dx fun i _ hi => ?_, dx fun i _ hi => ?_⟩
  · unfold airE
    dsimp only
    rw [(Jl _).2 m, if_neg (by omega), e1, if_neg (by omega), e3]
  · dsimp only at hi ⊢
    unfold gSf
    have := hF.f i (by omega)
    rw [if_pos (by omega)]
  · dsimp only at hi ⊢
    unfold gSd
    have := hD.f i (by omega)
    rw [if_pos (by omega)]
theorem ajU {a : SAir} {s : au} {pl : Int} {l : Sq Int} (h : GQ a.Mine.Roads pl a.Mine.Roads.n l) {R : Sq aB} (hr : ∀ j, j < l.n → R.f j = a.Mine.Roads.f (l.f j).toNat)
    {F : Sq SFan} {t : Sq Int} (hF : JF a s l a.Fans.n F t) {D : Sq aC} {u : Sq Int} (hD : JD a s l a.Doors.n D u) {j : Nat} (hj : j < l.n) (x : Int) : cK ⟨⟨a.Mine.Places, R⟩, F, D⟩ ⟨t, u⟩ j x = cK a s (l.f j).toNat x := by
  have b := h.f j hj
  unfold cK
  dsimp only
  rw [hr j hj, hD.e j hj, hF.e j hj, show (((l.f j).toNat : Nat) : Int) = l.f j by omega]
theorem Jb {a : SAir} {s : au} (h : aZ a s = true) (P : Sq Int) (pl : Int) : ∃ l J, oJ a s P pl = some J ∧ JnOf a s P pl l J := by
  have ok := aW h
  have hD := (NV (NT (Da h)).2.2).2.1
  obtain ⟨l, el, hl⟩ := SK (m := a.Mine) ok.m.nr pl
  rw [LG]; unfold xH
  rw [get_bind el]
  obtain ⟨R, eR, nR, hR⟩ := aiz (s := s) (P := P) hl rfl ok.m.nr ⟨0, fun _ => ⟨0, 0, 0, 0, false, false, ⟨0, 0⟩, ⟨0, 0⟩⟩⟩ rfl
  rw [aI eR]
  dsimp only [Sum.elim]
  obtain ⟨F, t, eF, hF⟩ := ajV (P := P) ok hl R ⟨0, fun _ => ⟨0, false, false, ⟨0, fun _ => ⟨0, 0⟩⟩⟩⟩ ⟨0, fun _ => 0⟩ rfl rfl
  rw [aI eF]
  dsimp only [Sum.elim]
  obtain ⟨D, u, eD, hD⟩ := aix (P := P) ok (fun i hi => .of (hD i hi)) hl R F t ⟨0, fun _ => ⟨0, 0, ⟨0, fun _ => 0⟩⟩⟩ ⟨0, fun _ => 0⟩ rfl rfl
  rw [aI eD]
  exact ⟨l, _, rfl, rfl, rfl, rfl, aiy ok hl nR hR hF hD, hl, nR, hR, fun j hj x => ajU hl hR hF hD hj x⟩
theorem V3 {m : aL} (hm : m.Roads.n ≤ 128) {j : Nat} (hj : j < m.Roads.n) {pl : Int} (h : adj (m.Roads.f j) pl) : N9 m j pl = some (if (m.Roads.f j).From = pl then (m.Roads.f j).To else (m.Roads.f j).From) := by
  have e : MH m j = some true := by
    rw [YP]; unfold Gd
    rw [YK (by omega) (by omega), get_bind (Js _ _ _), decide_eq_true (by omega)]; rfl
  rw [abP]; unfold MC
  rw [get_bind e, aD (b := !true) rfl, aA (dix hj), aF]
  by_cases c : (m.Roads.f j).From = pl
  · rw [aA (by simpa using c.symm), if_pos c]; rfl
  · have c2 : (m.Roads.f j).To = pl := h.resolve_left c
    rw [aD (by simpa using fun q : pl = _ => c q.symm), aA (by simpa using c2.symm), if_neg c]; rfl
theorem JnOf.flow {a : SAir} {s : au} {P : Sq Int} {pl : Int} {l : Sq Int} {J : aU} (h : JnOf a s P pl l J) (ok : RtOK a s) {j : Nat} (hj : j < l.n) (q : Int) :
    Av J.air_ J.setting_ j q = some (if (a.Mine.Roads.f (l.f j).toNat).Closed = true then ⟨0, 0⟩ else ⟨flL a s (l.f j).toNat q, flH a s (l.f j).toNat q⟩) := by
  have b := h.rd.f j hj
  have hi : (l.f j).toNat < a.Mine.Roads.n := by omega
  have er := h.rr j hj
  have hn := h.nn
  rcases ZE J.air_ J.setting_ j q with ⟨o, S, e, c⟩ | ⟨o, e⟩
  · have o2 := o.2.2.2
    rw [aF, er] at o2
    rw [e, if_neg (by rw [o2]; simp)]
    congr 1
    have e1 : (fun x => (cK J.air_ J.setting_ j x).2 > q) = (fun x => (cK a s (l.f j).toNat x).2 > q) := funext fun x => by rw [h.dd j hj x]
    have e2 : (fun x => (cK J.air_ J.setting_ j x).1 ≥ q) = (fun x => (cK a s (l.f j).toNat x).1 ≥ q) := funext fun x => by rw [h.dd j hj x]
    have c1 := c.l
    have c2 := c.h
    rw [aF] at c1 c2
    rw [e1] at c1
    rw [e2] at c2
    exact Ws.eq (a := a) (s := s) (i := (l.f j).toNat) (p := q) ⟨c1, c2⟩ ⟨(Sz ok hi q).2, (Sy ok hi q).2⟩
  · rw [e]
    by_cases cl : (a.Mine.Roads.f (l.f j).toNat).Closed = true
    · rw [if_pos cl]
    · exact absurd ⟨h.rt, by omega, by omega, by rw [aF, er]; simpa using cl⟩ o
theorem ahr {a : SAir} {s : au} {P : Sq Int} {pl : Int} {l : Sq Int} {J : aU} (h : JnOf a s P pl l J) (ok : RtOK a s) (hP : bQ a P) {p : Int} (p0 : -70368744177664 ≤ p) (p1 : p ≤ 70368744177664) {j : Nat} (hj : j < l.n) :
    kN J j p = some ⟨coL a s P pl p (l.f j).toNat, coH a s P pl p (l.f j).toNat⟩ := by
  have b := h.rd.f j hj
  have hn := h.nn
  have hln := h.rd.n
  have nr := ok.m.nr
  have pn := hP.n
  have hi : (l.f j).toNat < a.Mine.Roads.n := by omega
  have er := h.rr j hj
  obtain ⟨f0, f1, t0, t1, ne⟩ := pO ok.m hi
  have bF := hP.f (a.Mine.Roads.f (l.f j).toNat).From.toNat (by omega)
  have bT := hP.f (a.Mine.Roads.f (l.f j).toNat).To.toNat (by omega)
  have eo := V3 (m := J.air_.Mine) (by omega) (j := j) (by omega) (pl := pl) (by rw [er]; exact b.2.2)
  rw [er] at eo
  rw [Dl]; unfold nY
  rw [h.plE, h.prE, get_bind eo, aF, er]
  by_cases c : (a.Mine.Roads.f (l.f j).toNat).From = pl
  · rw [if_pos c, aA (decide_eq_true ⟨t0, by omega⟩), aA (dix (by omega)), aA (by simpa using c), aO (by omega) (by omega), get_bind (h.flow ok hj _)]
    unfold coL coH
    by_cases cl : (a.Mine.Roads.f (l.f j).toNat).Closed = true
    · rw [if_pos cl, if_pos cl, if_pos cl]; rfl
    · rw [if_neg cl, if_neg cl, if_neg cl, if_pos c, if_pos c]; rfl
  · have c2 : (a.Mine.Roads.f (l.f j).toNat).To = pl := b.2.2.resolve_left c
    rw [if_neg c, aA (decide_eq_true ⟨f0, by omega⟩), aA (dix (by omega)), aD (by simpa using c), aO (by omega) (by omega), get_bind (h.flow ok hj _)]
    unfold coL coH
    by_cases cl : (a.Mine.Roads.f (l.f j).toNat).Closed = true
    · rw [if_pos cl, if_pos cl, if_pos cl]; rfl
    · have q := aew ok hi (P.f (a.Mine.Roads.f (l.f j).toNat).From.toNat - p)
      rw [if_neg cl, if_neg cl, if_neg cl, if_neg c, if_neg c, if_pos c2, if_pos c2]
      dsimp only
      rw [aO (by omega) (by omega), aO (by omega) (by omega), Int.zero_sub, Int.zero_sub]; rfl
theorem aje {a : SAir} {s : au} {P : Sq Int} {pl p : Int} (i : Nat) : (if adj (a.Mine.Roads.f i) pl then coL a s P pl p i else 0) = coL a s P pl p i ∧ (if adj (a.Mine.Roads.f i) pl then coH a s P pl p i else 0) = coH a s P pl p i := by
  by_cases h : adj (a.Mine.Roads.f i) pl
  · rw [if_pos h, if_pos h]; exact ⟨rfl, rfl⟩
  · rw [if_neg h, if_neg h]
    unfold coL coH
    have h1 : ¬ (a.Mine.Roads.f i).From = pl := fun q => h (.inl q)
    have h2 : ¬ (a.Mine.Roads.f i).To = pl := fun q => h (.inr q)
    constructor
    all_goals
      simp only [if_neg h1, if_neg h2, ite_self]
theorem aiC {a : SAir} {s : au} {P : Sq Int} {pl : Int} {l : Sq Int} {J : aU} (h : JnOf a s P pl l J) (ok : RtOK a s) (hP : bQ a P) {p : Int} (p0 : -70368744177664 ≤ p) (p1 : p ≤ 70368744177664) :
    rW p J.air_.Mine.Places J.pressures_ J.place_ J.air_.Mine.Roads J.air_.Fans J.air_.Doors J.setting_.Fans J.setting_.Doors 0 0 0 = some (.inl (NL a s P pl p, NH a s P pl p)) := by
  have hn := h.nn
  have hln := h.rd.n
  have nr := ok.m.nr
  have e1 : sumN (fun j => coL a s P pl p (l.f j).toNat) l.n = NL a s P pl p := by rw [h.rd.s (coL a s P pl p)]; exact jo fun i _ => (aje i).1
  have e2 : sumN (fun j => coH a s P pl p (l.f j).toNat) l.n = NH a s P pl p := by rw [h.rd.s (coH a s P pl p)]; exact jo fun i _ => (aje i).2
  have b1 : ∀ i, i ≤ l.n → -1000000000 ≤ sumN (fun j => coL a s P pl p (l.f j).toNat) i ∧ sumN (fun j => coL a s P pl p (l.f j).toNat) i ≤ 1000000000 := fun i hi => by
    have := VN (g := fun j => coL a s P pl p (l.f j).toNat) (n := i) fun j hj => by have := h.rd.f j (by omega); have := aej ok P pl p (i := (l.f j).toNat) (by omega); omega
    omega
  have b2 : ∀ i, i ≤ l.n → -1000000000 ≤ sumN (fun j => coH a s P pl p (l.f j).toNat) i ∧ sumN (fun j => coH a s P pl p (l.f j).toNat) i ≤ 1000000000 := fun i hi => by
    have := VN (g := fun j => coH a s P pl p (l.f j).toNat) (n := i) fun j hj => by have := h.rd.f j (by omega); have := aej ok P pl p (i := (l.f j).toNat) (by omega); omega
    omega
  rw [ED]
  refine (yI (step := fun v : Int × Int × Int => eZ p J.air_.Mine.Places J.pressures_ J.place_ J.air_.Mine.Roads J.air_.Fans J.air_.Doors J.setting_.Fans J.setting_.Doors v.1 v.2.1 v.2.2)
    (fun i => ((i : Int), sumN (fun j => coL a s P pl p (l.f j).toNat) i, sumN (fun j => coH a s P pl p (l.f j).toNat) i)) l.n (z := .l (NL a s P pl p, NH a s P pl p)) (fun i hi => ?_) ?_).trans rfl
  · dsimp only
    unfold eZ
    have c1 := b1 (i + 1) (by omega)
    have c2 := b2 (i + 1) (by omega)
    rw [aA (dlt (by omega)), get_bind (show kN _ _ _ = _ from ahr h ok hP p0 p1 hi), aQ (by omega)]
    dsimp only
    rw [aO (x := sumN (fun j => coL a s P pl p (l.f j).toNat) i + coL a s P pl p (l.f i).toNat) (Int.le_trans (by omega) c1.1) (Int.le_trans c1.2 (by omega)), aO (x := sumN (fun j => coH a s P pl p (l.f j).toNat) i + coH a s P pl p (l.f i).toNat) (Int.le_trans (by omega) c2.1) (Int.le_trans c2.2 (by omega))]
    rfl
  · dsimp only
    unfold eZ
    rw [aD (dge (by omega)), e1, e2]; rfl
theorem aj1 {a : SAir} {s : au} {P : Sq Int} {pl : Int} {l : Sq Int} {J : aU} (h : JnOf a s P pl l J) (ok : RtOK a s) (hP : bQ a P) {p : Int} (p0 : -70368744177664 ≤ p) (p1 : p ≤ 70368744177664) :
    lF J p = some ⟨NL a s P pl p, NH a s P pl p⟩ := by
  rw [IB]; unfold uN
  rw [aI (aiC h ok hP p0 p1)]; rfl
structure PrOK (a : SAir) (s : au) (P : Sq Int) (pl : Int) : Prop where
  rt : aZ a s = true
  Pp : bQ a P
  p0 : 0 ≤ pl
  p1 : pl < P.n
def gPr (P : Sq Int) (k : Nat) : Option Unit := if -70368744177664 ≤ P.f k ∧ P.f k ≤ 70368744177664 then none else some ()
theorem aeL {P : Sq Int} (h : P.n ≤ 64) : Ap P 0 = some (sumO (aR (gPr P) P.n 0)) := by
  rw [Oz, ← jV]
  refine aX (step := fun v => jw P v) (gPr P) (fun i hi => ?_) ?_ P.n 0 (Nat.zero_add _)
  · unfold jw gPr
    have e : yj (P.f i) (-70368744177664) 70368744177664 = some (decide (-70368744177664 ≤ P.f i ∧ P.f i ≤ 70368744177664)) := by
      rw [GZ]; unfold yG
      by_cases c : -70368744177664 ≤ P.f i
      · rw [aA (decide_eq_true c)]; simp [c]
      · rw [aD (decide_eq_false c)]; simp [c]
    rw [aA (dlt hi), aA (dix hi), aF, aQ (by omega), get_bind e]
    by_cases c : -70368744177664 ≤ P.f i ∧ P.f i ≤ 70368744177664
    · rw [if_pos c, aD (by simp only [decide_eq_true c, Bool.not_true])]; rfl
    · rw [if_neg c, aA (by simp only [decide_eq_false c, Bool.not_false])]; rfl
  · unfold jw
    rw [aD (dge (Nat.le_refl _))]; rfl
theorem abU (a : SAir) (s : au) (P : Sq Int) (pl : Int) : (PrOK a s P pl ∧ uJ a s P pl = some true) ∨ (¬ PrOK a s P pl ∧ uJ a s P pl = some false) := by
  rw [Um]; unfold BH
  rw [get_bind (FR a s)]
  by_cases hr : aZ a s = true
  · have ok := aW hr
    have np := ok.m.np
    rw [hr, aD (b := !true) rfl]
    by_cases hn : P.n = a.Mine.Places.n
    · have e0 : (((P.n : Nat) : Int) != ((a.Mine.Places.n : Nat) : Int)) = false := by rw [hn]; simp
      rw [aD e0]
      have ew : yj pl 0 (wr (((P.n : Nat) : Int) - 1)) = some (decide (0 ≤ pl ∧ pl < P.n)) := by
        rw [aO (by omega) (by omega), GZ]; unfold yG
        by_cases c : 0 ≤ pl
        · rw [aA (decide_eq_true c)]
          show some (decide (pl ≤ (P.n : Int) - 1)) = _
          by_cases c2 : pl < P.n
          · rw [decide_eq_true (show pl ≤ (P.n : Int) - 1 by omega), decide_eq_true ⟨c, c2⟩]
          · rw [decide_eq_false (show ¬ pl ≤ (P.n : Int) - 1 by omega), decide_eq_false (by omega)]
        · rw [aD (decide_eq_false c)]
          show some false = _
          rw [decide_eq_false (by omega)]
      rw [get_bind ew]
      by_cases c : 0 ≤ pl ∧ pl < P.n
      · rw [aD (by simp only [decide_eq_true c, Bool.not_true]), aI (aeL (by omega))]
        cases hf : aR (gPr P) P.n 0 with
        | none =>
          refine .inl ⟨⟨hr, ⟨hn, fun k hk => ?_⟩, c.1, c.2⟩, rfl⟩
          have := jf hf k (Nat.zero_le _) (by omega)
          unfold gPr at this
          by_cases q : -70368744177664 ≤ P.f k ∧ P.f k ≤ 70368744177664
          · exact q
          · rw [if_neg q] at this; cases this
        | some b =>
          refine .inr ⟨fun h => ?_, rfl⟩
          obtain ⟨j, _, hj, e, _⟩ := yV hf
          unfold gPr at e
          rw [if_pos (h.Pp.f j (by omega))] at e; cases e
      · rw [aA (by simp only [decide_eq_false c, Bool.not_false])]
        exact .inr ⟨fun h => c ⟨h.p0, h.p1⟩, rfl⟩
    · have e0 : (((P.n : Nat) : Int) != ((a.Mine.Places.n : Nat) : Int)) = true := by simp; omega
      rw [aA e0]
      exact .inr ⟨fun h => hn h.Pp.n, rfl⟩
  · have hr' : aZ a s = false := by simpa using hr
    rw [hr', aA (b := !false) rfl]
    exact .inr ⟨fun h => hr h.rt, rfl⟩
def netS (a : SAir) (s : au) (P : Sq Int) (pl : Int) : aK := ⟨NL a s P pl (P.f pl.toNat), NH a s P pl (P.f pl.toNat)⟩
theorem Iz {a : SAir} {s : au} {P : Sq Int} {pl : Int} (h : PrOK a s P pl) : Dj a s P pl = some (netS a s P pl) := by
  have p0 := h.p0
  have p1 := h.p1
  have b := h.Pp.f pl.toNat (by omega)
  obtain ⟨l, J, eJ, hJ⟩ := Jb h.rt P pl
  rcases abU a s P pl with ⟨_, e⟩ | ⟨n, _⟩
  · rw [ZA]; unfold Iy
    rw [get_bind e, aD (b := !true) rfl, get_bind eJ, aA (decide_eq_true ⟨p0, p1⟩), get_bind (aj1 hJ (aW h.rt) h.Pp b.1 b.2)]; rfl
  · exact absurd h n
end
end Go.Proofs.YtmfiagdelnddkaaGreat.Ab
