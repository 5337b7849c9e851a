/- Stage 10: what leaves a place, by the program and by the document. -/
import Derived.Test.YtnoeblpanfbpjaaGreatXB
namespace Go.Proofs.YtnoeblpanfbpjaaGreat.Ab
open Go

theorem rightB_air {a : SAir} {s : SSetting} (h : rightB a s = true) : airE a = 0 := by
  unfold rightB at h
  split at h
  · rename_i q; exact q.1
  · cases h
/-- A place with the roads around it, taken out of the mine. -/
structure JnOf (a : SAir) (s : SSetting) (P : Sq Int) (pl : Int) (l : Sq Int) (J : Sjunction) : Prop where
  plE : J.place_ = pl
  prE : J.pressures_ = P
  PE : J.air_.Mine.Places = a.Mine.Places
  rt : rightB J.air_ J.setting_ = true
  rd : RdsOK a.Mine.Roads pl a.Mine.Roads.n l
  nn : J.air_.Mine.Roads.n = l.n
  rr : ∀ j, j < l.n → J.air_.Mine.Roads.f j = a.Mine.Roads.f (l.f j).toNat
  dd : ∀ j, j < l.n → ∀ x, dropP J.air_ J.setting_ j x = dropP a s (l.f j).toNat x
theorem jn_right {a : SAir} {s : SSetting} (ok : RtOK a s) {pl : Int} {l : Sq Int} (h : RdsOK a.Mine.Roads pl a.Mine.Roads.n l) {R : Sq SRoad} (hR : R.n = l.n) (hr : ∀ j, j < l.n → R.f j = a.Mine.Roads.f (l.f j).toNat)
    {F : Sq SFan} {t : Sq Int} (hF : JF a s l a.Fans.n F t) {D : Sq SDoor} {u : Sq Int} (hD : JD a s l a.Doors.n D u) : rightB ⟨⟨a.Mine.Places, R⟩, F, D⟩ ⟨t, u⟩ = true := by
  have nr := ok.m.nr
  have np := ok.m.np
  have hn := h.n
  have fn := hF.n
  have dn := hD.n
  have nf := ok.nf
  have nd := ok.nd
  have ft := hF.tn
  have dt := hD.tn
  have m : MineOK ⟨a.Mine.Places, R⟩ := ⟨np, by dsimp only; omega, ok.m.h, fun i hi => by
    dsimp only at hi ⊢
    have := h.f i (by omega)
    rw [hr i (by omega)]; exact ok.m.r _ (by omega)⟩
  have e1 : fansE F R.n = 0 := by
    unfold fansE
    rw [if_neg (by omega), firstN_all fun i _ hi => ?_]
    unfold gF
    obtain ⟨f1, f2, f3, _⟩ := hF.f i (by omega)
    rw [if_neg (by omega), if_pos (by omega)]
  have e2 : doorsE D = 0 := by
    unfold doorsE
    rw [if_neg (by omega), firstN_all fun i _ hi => ?_]
    unfold gDo
    obtain ⟨f1, f2, _⟩ := hD.f i (by omega)
    rw [if_pos (f1.to f2)]
  have e3 : doorsE2 D R.n = 0 := by
    unfold doorsE2
    rw [e2, if_neg (by omega), firstN_all fun i _ hi => ?_]
    unfold gDr
    obtain ⟨f1, f2, f3, _⟩ := hD.f i (by omega)
    have := f1.r
    rw [if_pos (by omega)]
  unfold rightB
  rw [if_pos]
  refine ⟨?_, ft, dt, firstN_all fun i _ hi => ?_, firstN_all fun i _ hi => ?_⟩
  · unfold airE
    dsimp only
    rw [(mineE_ok _).2 m, if_neg (by omega), e1, if_neg (by omega), e3]
  · dsimp only at hi ⊢
    unfold gSf
    have := hF.f i (by omega)
    rw [if_pos (by omega)]
  · dsimp only at hi ⊢
    unfold gSd
    have := hD.f i (by omega)
    rw [if_pos (by omega)]
theorem jn_drop {a : SAir} {s : SSetting} {pl : Int} {l : Sq Int} (h : RdsOK a.Mine.Roads pl a.Mine.Roads.n l) {R : Sq SRoad} (hr : ∀ j, j < l.n → R.f j = a.Mine.Roads.f (l.f j).toNat)
    {F : Sq SFan} {t : Sq Int} (hF : JF a s l a.Fans.n F t) {D : Sq SDoor} {u : Sq Int} (hD : JD a s l a.Doors.n D u) {j : Nat} (hj : j < l.n) (x : Int) : dropP ⟨⟨a.Mine.Places, R⟩, F, D⟩ ⟨t, u⟩ j x = dropP a s (l.f j).toNat x := by
  have b := h.f j hj
  unfold dropP
  dsimp only
  rw [hr j hj, hD.e j hj, hF.e j hj, show (((l.f j).toNat : Nat) : Int) = l.f j by omega]
theorem junctionOf_ex {a : SAir} {s : SSetting} (h : rightB a s = true) (P : Sq Int) (pl : Int) : ∃ l J, balance_junctionOf a s P pl = some J ∧ JnOf a s P pl l J := by
  have ok := right_ok h
  have hD := (doorsE2_ok (airE_parts (rightB_air h)).2.2).2.1
  obtain ⟨l, el, hl⟩ := plan_Roads_ex (m := a.Mine) ok.m.nr pl
  rw [balance_junctionOf_eq]; unfold balance_junctionOf_t
  rw [get_bind el]
  obtain ⟨R, eR, nR, hR⟩ := jn_roads (s := s) (P := P) hl rfl ok.m.nr ⟨0, fun _ => ⟨0, 0, 0, 0, false, false, ⟨0, 0⟩, ⟨0, 0⟩⟩⟩ rfl
  rw [get_sum eR]
  dsimp only [Sum.elim]
  obtain ⟨F, t, eF, hF⟩ := jn_fans (P := P) ok hl R ⟨0, fun _ => ⟨0, false, false, ⟨0, fun _ => ⟨0, 0⟩⟩⟩⟩ ⟨0, fun _ => 0⟩ rfl rfl
  rw [get_sum eF]
  dsimp only [Sum.elim]
  obtain ⟨D, u, eD, hD⟩ := jn_doors (P := P) ok (fun i hi => .of (hD i hi)) hl R F t ⟨0, fun _ => ⟨0, 0, ⟨0, fun _ => 0⟩⟩⟩ ⟨0, fun _ => 0⟩ rfl rfl
  rw [get_sum eD]
  exact ⟨l, _, rfl, rfl, rfl, rfl, jn_right ok hl nR hR hF hD, hl, nR, hR, fun j hj x => jn_drop hl hR hF hD hj x⟩
theorem plan_Other_v {m : SMine} (hm : m.Roads.n ≤ 128) {j : Nat} (hj : j < m.Roads.n) {pl : Int} (h : adj (m.Roads.f j) pl) : plan_Other m j pl = some (if (m.Roads.f j).From = pl then (m.Roads.f j).To else (m.Roads.f j).From) := by
  have e : plan_hasRoad m j = some true := by
    rw [plan_hasRoad_eq]; unfold plan_hasRoad_t
    rw [last_nat2 (by omega) (by omega), get_bind (plan_within_v _ _ _), decide_eq_true (by omega)]; rfl
  rw [plan_Other_eq]; unfold plan_Other_t
  rw [get_bind e, get_f (b := !true) rfl, get_t (dix hj), toNat_nat]
  by_cases c : (m.Roads.f j).From = pl
  · rw [get_t (by simpa using c.symm), if_pos c]; rfl
  · have c2 : (m.Roads.f j).To = pl := h.resolve_left c
    rw [get_f (by simpa using fun q : pl = _ => c q.symm), get_t (by simpa using c2.symm), if_neg c]; rfl
theorem JnOf.flow {a : SAir} {s : SSetting} {P : Sq Int} {pl : Int} {l : Sq Int} {J : Sjunction} (h : JnOf a s P pl l J) (ok : RtOK a s) {j : Nat} (hj : j < l.n) (q : Int) :
    branch_Flow J.air_ J.setting_ j q = some (if (a.Mine.Roads.f (l.f j).toNat).Closed = true then ⟨0, 0⟩ else ⟨flL a s (l.f j).toNat q, flH a s (l.f j).toNat q⟩) := by
  have b := h.rd.f j hj
  have hi : (l.f j).toNat < a.Mine.Roads.n := by omega
  have er := h.rr j hj
  have hn := h.nn
  rcases branch_Flow_ex J.air_ J.setting_ j q with ⟨o, S, e, c⟩ | ⟨o, e⟩
  · have o2 := o.2.2.2
    rw [toNat_nat, er] at o2
    rw [e, if_neg (by rw [o2]; simp)]
    congr 1
    have e1 : (fun x => (dropP J.air_ J.setting_ j x).2 > q) = (fun x => (dropP a s (l.f j).toNat x).2 > q) := funext fun x => by rw [h.dd j hj x]
    have e2 : (fun x => (dropP J.air_ J.setting_ j x).1 ≥ q) = (fun x => (dropP a s (l.f j).toNat x).1 ≥ q) := funext fun x => by rw [h.dd j hj x]
    have c1 := c.l
    have c2 := c.h
    rw [toNat_nat] at c1 c2
    rw [e1] at c1
    rw [e2] at c2
    exact FlowC.eq (a := a) (s := s) (i := (l.f j).toNat) (p := q) ⟨c1, c2⟩ ⟨(flL_c ok hi q).2, (flH_c ok hi q).2⟩
  · rw [e]
    by_cases cl : (a.Mine.Roads.f (l.f j).toNat).Closed = true
    · rw [if_pos cl]
    · exact absurd ⟨h.rt, by omega, by omega, by rw [toNat_nat, er]; simpa using cl⟩ o
theorem leaving_v {a : SAir} {s : SSetting} {P : Sq Int} {pl : Int} {l : Sq Int} {J : Sjunction} (h : JnOf a s P pl l J) (ok : RtOK a s) (hP : PrsOK a P) {p : Int} (p0 : -70368744177664 ≤ p) (p1 : p ≤ 70368744177664) {j : Nat} (hj : j < l.n) :
    balance_junction_leaving J j p = some ⟨coL a s P pl p (l.f j).toNat, coH a s P pl p (l.f j).toNat⟩ := by
  have b := h.rd.f j hj
  have hn := h.nn
  have hln := h.rd.n
  have nr := ok.m.nr
  have pn := hP.n
  have hi : (l.f j).toNat < a.Mine.Roads.n := by omega
  have er := h.rr j hj
  obtain ⟨f0, f1, t0, t1, ne⟩ := road_ends ok.m hi
  have bF := hP.f (a.Mine.Roads.f (l.f j).toNat).From.toNat (by omega)
  have bT := hP.f (a.Mine.Roads.f (l.f j).toNat).To.toNat (by omega)
  have eo := plan_Other_v (m := J.air_.Mine) (by omega) (j := j) (by omega) (pl := pl) (by rw [er]; exact b.2.2)
  rw [er] at eo
  rw [balance_junction_leaving_eq]; unfold balance_junction_leaving_t
  rw [h.plE, h.prE, get_bind eo, toNat_nat, er]
  by_cases c : (a.Mine.Roads.f (l.f j).toNat).From = pl
  · rw [if_pos c, get_t (decide_eq_true ⟨t0, by omega⟩), get_t (dix (by omega)), get_t (by simpa using c), wr_ok (by omega) (by omega), get_bind (h.flow ok hj _)]
    unfold coL coH
    by_cases cl : (a.Mine.Roads.f (l.f j).toNat).Closed = true
    · rw [if_pos cl, if_pos cl, if_pos cl]; rfl
    · rw [if_neg cl, if_neg cl, if_neg cl, if_pos c, if_pos c]; rfl
  · have c2 : (a.Mine.Roads.f (l.f j).toNat).To = pl := b.2.2.resolve_left c
    rw [if_neg c, get_t (decide_eq_true ⟨f0, by omega⟩), get_t (dix (by omega)), get_f (by simpa using c), wr_ok (by omega) (by omega), get_bind (h.flow ok hj _)]
    unfold coL coH
    by_cases cl : (a.Mine.Roads.f (l.f j).toNat).Closed = true
    · rw [if_pos cl, if_pos cl, if_pos cl]; rfl
    · have q := fl_in ok hi (P.f (a.Mine.Roads.f (l.f j).toNat).From.toNat - p)
      rw [if_neg cl, if_neg cl, if_neg cl, if_neg c, if_neg c, if_pos c2, if_pos c2]
      dsimp only
      rw [wr_ok (by omega) (by omega), wr_ok (by omega) (by omega), Int.zero_sub, Int.zero_sub]; rfl
theorem co_adj {a : SAir} {s : SSetting} {P : Sq Int} {pl p : Int} (i : Nat) : (if adj (a.Mine.Roads.f i) pl then coL a s P pl p i else 0) = coL a s P pl p i ∧ (if adj (a.Mine.Roads.f i) pl then coH a s P pl p i else 0) = coH a s P pl p i := by
  by_cases h : adj (a.Mine.Roads.f i) pl
  · rw [if_pos h, if_pos h]; exact ⟨rfl, rfl⟩
  · rw [if_neg h, if_neg h]
    unfold coL coH
    have h1 : ¬ (a.Mine.Roads.f i).From = pl := fun q => h (.inl q)
    have h2 : ¬ (a.Mine.Roads.f i).To = pl := fun q => h (.inr q)
    constructor
    all_goals
      simp only [if_neg h1, if_neg h2, ite_self]
theorem net_l3_v {a : SAir} {s : SSetting} {P : Sq Int} {pl : Int} {l : Sq Int} {J : Sjunction} (h : JnOf a s P pl l J) (ok : RtOK a s) (hP : PrsOK a P) {p : Int} (p0 : -70368744177664 ≤ p) (p1 : p ≤ 70368744177664) :
    balance_junction_net_l3 p J.air_.Mine.Places J.pressures_ J.place_ J.air_.Mine.Roads J.air_.Fans J.air_.Doors J.setting_.Fans J.setting_.Doors 0 0 0 = some (.inl (NL a s P pl p, NH a s P pl p)) := by
  have hn := h.nn
  have hln := h.rd.n
  have nr := ok.m.nr
  have e1 : sumN (fun j => coL a s P pl p (l.f j).toNat) l.n = NL a s P pl p := by rw [h.rd.s (coL a s P pl p)]; exact sumN_congr fun i _ => (co_adj i).1
  have e2 : sumN (fun j => coH a s P pl p (l.f j).toNat) l.n = NH a s P pl p := by rw [h.rd.s (coH a s P pl p)]; exact sumN_congr fun i _ => (co_adj i).2
  have b1 : ∀ i, i ≤ l.n → -1000000000 ≤ sumN (fun j => coL a s P pl p (l.f j).toNat) i ∧ sumN (fun j => coL a s P pl p (l.f j).toNat) i ≤ 1000000000 := fun i hi => by
    have := sumN_in (g := fun j => coL a s P pl p (l.f j).toNat) (n := i) fun j hj => by have := h.rd.f j (by omega); have := co_in ok P pl p (i := (l.f j).toNat) (by omega); omega
    omega
  have b2 : ∀ i, i ≤ l.n → -1000000000 ≤ sumN (fun j => coH a s P pl p (l.f j).toNat) i ∧ sumN (fun j => coH a s P pl p (l.f j).toNat) i ≤ 1000000000 := fun i hi => by
    have := sumN_in (g := fun j => coH a s P pl p (l.f j).toNat) (n := i) fun j hj => by have := h.rd.f j (by omega); have := co_in ok P pl p (i := (l.f j).toNat) (by omega); omega
    omega
  rw [balance_junction_net_l3_eq]
  refine (loop_seq (step := fun v : Int × Int × Int => balance_junction_net_l3_step p J.air_.Mine.Places J.pressures_ J.place_ J.air_.Mine.Roads J.air_.Fans J.air_.Doors J.setting_.Fans J.setting_.Doors v.1 v.2.1 v.2.2)
    (fun i => ((i : Int), sumN (fun j => coL a s P pl p (l.f j).toNat) i, sumN (fun j => coH a s P pl p (l.f j).toNat) i)) l.n (z := .l (NL a s P pl p, NH a s P pl p)) (fun i hi => ?_) ?_).trans rfl
  · dsimp only
    unfold balance_junction_net_l3_step
    have c1 := b1 (i + 1) (by omega)
    have c2 := b2 (i + 1) (by omega)
    rw [get_t (dlt (by omega)), get_bind (show balance_junction_leaving _ _ _ = _ from leaving_v h ok hP p0 p1 hi), wr_next (by omega)]
    dsimp only
    rw [wr_ok (x := sumN (fun j => coL a s P pl p (l.f j).toNat) i + coL a s P pl p (l.f i).toNat) (Int.le_trans (by omega) c1.1) (Int.le_trans c1.2 (by omega)), wr_ok (x := sumN (fun j => coH a s P pl p (l.f j).toNat) i + coH a s P pl p (l.f i).toNat) (Int.le_trans (by omega) c2.1) (Int.le_trans c2.2 (by omega))]
    rfl
  · dsimp only
    unfold balance_junction_net_l3_step
    rw [get_f (dge (by omega)), e1, e2]; rfl
theorem net_v {a : SAir} {s : SSetting} {P : Sq Int} {pl : Int} {l : Sq Int} {J : Sjunction} (h : JnOf a s P pl l J) (ok : RtOK a s) (hP : PrsOK a P) {p : Int} (p0 : -70368744177664 ≤ p) (p1 : p ≤ 70368744177664) :
    balance_junction_net J p = some ⟨NL a s P pl p, NH a s P pl p⟩ := by
  rw [balance_junction_net_eq]; unfold balance_junction_net_t
  rw [get_sum (net_l3_v h ok hP p0 p1)]; rfl
/-! ### The arguments -/
/-- The arguments are right. -/
structure PrOK (a : SAir) (s : SSetting) (P : Sq Int) (pl : Int) : Prop where
  rt : rightB a s = true
  Pp : PrsOK a P
  p0 : 0 ≤ pl
  p1 : pl < P.n
def gPr (P : Sq Int) (k : Nat) : Option Unit := if -70368744177664 ≤ P.f k ∧ P.f k ≤ 70368744177664 then none else some ()
theorem proper_l4_v {P : Sq Int} (h : P.n ≤ 64) : balance_proper_l4 P 0 = some (sumO (firstN (gPr P) P.n 0)) := by
  rw [balance_proper_l4_eq, ← sumO_eq]
  refine loop_first (step := fun v => balance_proper_l4_step P v) (gPr P) (fun i hi => ?_) ?_ P.n 0 (Nat.zero_add _)
  · unfold balance_proper_l4_step gPr
    have e : balance_within (P.f i) (-70368744177664) 70368744177664 = some (decide (-70368744177664 ≤ P.f i ∧ P.f i ≤ 70368744177664)) := by
      rw [balance_within_eq]; unfold balance_within_t
      by_cases c : -70368744177664 ≤ P.f i
      · rw [get_t (decide_eq_true c)]; simp [c]
      · rw [get_f (decide_eq_false c)]; simp [c]
    rw [get_t (dlt hi), get_t (dix hi), toNat_nat, wr_next (by omega), get_bind e]
    by_cases c : -70368744177664 ≤ P.f i ∧ P.f i ≤ 70368744177664
    · rw [if_pos c, get_f (by simp only [decide_eq_true c, Bool.not_true])]; rfl
    · rw [if_neg c, get_t (by simp only [decide_eq_false c, Bool.not_false])]; rfl
  · unfold balance_proper_l4_step
    rw [get_f (dge (Nat.le_refl _))]; rfl
theorem proper_p (a : SAir) (s : SSetting) (P : Sq Int) (pl : Int) : (PrOK a s P pl ∧ balance_proper a s P pl = some true) ∨ (¬ PrOK a s P pl ∧ balance_proper a s P pl = some false) := by
  rw [balance_proper_eq]; unfold balance_proper_t
  rw [get_bind (branch_Right_v a s)]
  by_cases hr : rightB a s = true
  · have ok := right_ok hr
    have np := ok.m.np
    rw [hr, get_f (b := !true) rfl]
    by_cases hn : P.n = a.Mine.Places.n
    · have e0 : (((P.n : Nat) : Int) != ((a.Mine.Places.n : Nat) : Int)) = false := by rw [hn]; simp
      rw [get_f e0]
      have ew : balance_within pl 0 (wr (((P.n : Nat) : Int) - 1)) = some (decide (0 ≤ pl ∧ pl < P.n)) := by
        rw [wr_ok (by omega) (by omega), balance_within_eq]; unfold balance_within_t
        by_cases c : 0 ≤ pl
        · rw [get_t (decide_eq_true c)]
          show some (decide (pl ≤ (P.n : Int) - 1)) = _
          by_cases c2 : pl < P.n
          · rw [decide_eq_true (show pl ≤ (P.n : Int) - 1 by omega), decide_eq_true ⟨c, c2⟩]
          · rw [decide_eq_false (show ¬ pl ≤ (P.n : Int) - 1 by omega), decide_eq_false (by omega)]
        · rw [get_f (decide_eq_false c)]
          show some false = _
          rw [decide_eq_false (by omega)]
      rw [get_bind ew]
      by_cases c : 0 ≤ pl ∧ pl < P.n
      · rw [get_f (by simp only [decide_eq_true c, Bool.not_true]), get_sum (proper_l4_v (by omega))]
        cases hf : firstN (gPr P) P.n 0 with
        | none =>
          refine .inl ⟨⟨hr, ⟨hn, fun k hk => ?_⟩, c.1, c.2⟩, rfl⟩
          have := firstN_none hf k (Nat.zero_le _) (by omega)
          unfold gPr at this
          by_cases q : -70368744177664 ≤ P.f k ∧ P.f k ≤ 70368744177664
          · exact q
          · rw [if_neg q] at this; cases this
        | some b =>
          refine .inr ⟨fun h => ?_, rfl⟩
          obtain ⟨j, _, hj, e, _⟩ := firstN_some hf
          unfold gPr at e
          rw [if_pos (h.Pp.f j (by omega))] at e; cases e
      · rw [get_t (by simp only [decide_eq_false c, Bool.not_false])]
        exact .inr ⟨fun h => c ⟨h.p0, h.p1⟩, rfl⟩
    · have e0 : (((P.n : Nat) : Int) != ((a.Mine.Places.n : Nat) : Int)) = true := by simp; omega
      rw [get_t e0]
      exact .inr ⟨fun h => hn h.Pp.n, rfl⟩
  · have hr' : rightB a s = false := by simpa using hr
    rw [hr', get_t (b := !false) rfl]
    exact .inr ⟨fun h => hr h.rt, rfl⟩
/-- What leaves a place. -/
noncomputable def netS (a : SAir) (s : SSetting) (P : Sq Int) (pl : Int) : SSpan := ⟨NL a s P pl (P.f pl.toNat), NH a s P pl (P.f pl.toNat)⟩
theorem balance_Net_v {a : SAir} {s : SSetting} {P : Sq Int} {pl : Int} (h : PrOK a s P pl) : balance_Net a s P pl = some (netS a s P pl) := by
  have p0 := h.p0
  have p1 := h.p1
  have b := h.Pp.f pl.toNat (by omega)
  obtain ⟨l, J, eJ, hJ⟩ := junctionOf_ex h.rt P pl
  rcases proper_p a s P pl with ⟨_, e⟩ | ⟨n, _⟩
  · rw [balance_Net_eq]; unfold balance_Net_t
    rw [get_bind e, get_f (b := !true) rfl, get_bind eJ, get_t (decide_eq_true ⟨p0, p1⟩), get_bind (net_v hJ (right_ok h.rt) h.Pp b.1 b.2)]; rfl
  · exact absurd h n
end Go.Proofs.YtnoeblpanfbpjaaGreat.Ab
