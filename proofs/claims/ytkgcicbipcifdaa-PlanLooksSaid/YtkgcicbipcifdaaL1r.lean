/- Stage 1: mines that are drawn; a road closed and opened; the sanity check. -/
import Derived.Test.YtkgcicbipcifdaaL1i
import Derived.Test.YtkgcicbipcifdaaL1l
namespace Go.Proofs.Ytkgcicbipcifdaa.Ab
open Go

theorem Codes_Road_all {c : SCodes} (hc : CdOK c) (p q : Int) : ∃ r a, Codes_Road c p q = some (r, a) ∧ 0 ≤ a ∧ a ≤ 300 ∧ RdD r ∧ r.From = p ∧ r.To = q ∧ -300 ≤ r.Lift.Low ∧ r.Lift.Low ≤ r.Lift.High ∧ r.Lift.High ≤ 319 := by
  obtain ⟨v1, a1, e1, l1, u1, x1, y1⟩ := Codes_Range_ex hc 1 400 (by omega) (by omega) (by omega)
  obtain ⟨v2, a2, e2, l2, u2, x2, y2⟩ := Codes_Range_ex (hc.at l1 u1) 4 30 (by omega) (by omega) (by omega)
  obtain ⟨v3, a3, e3, l3, u3, x3, y3, _⟩ := Codes_Next_ex (hc.at l2 u2) 4 (by omega)
  obtain ⟨v4, a4, e4, l4, u4, x4, y4⟩ := Codes_Range_ex (hc.at l3 u3) 1 20 (by omega) (by omega) (by omega)
  obtain ⟨v5, a5, e5, l5, u5, x5, y5, _⟩ := Codes_Next_ex (hc.at l4 u4) 3 (by omega)
  obtain ⟨v6, a6, e6, l6, u6, x6, y6⟩ := Codes_Range_ex (hc.at l5 u5) (-300) 300 (by omega) (by omega) (by omega)
  obtain ⟨v7, a7, e7, l7, u7, x7, y7, _⟩ := Codes_Next_ex (hc.at l6 u6) 20 (by omega)
  have y5 := y5 (by omega)
  have y7 := y7 (by omega)
  rw [Codes_Road_eq]; unfold Codes_Road_t
  rw [get_bind e1, get_bind e2, get_bind e3, get_bind e4, get_bind e5, get_bind e6, get_bind e7]
  have w5 : wr (v4 + v5) = v4 + v5 := wr_ok (by omega) (by omega)
  have w7 : wr (v6 + v7) = v6 + v7 := wr_ok (by omega) (by omega)
  refine ⟨_, _, rfl, l7, u7, ⟨x1, y1, x2, y2, x4, ?_, ?_⟩, rfl, rfl, x6, ?_, ?_⟩
  · show v4 ≤ wr (v4 + v5); omega
  · show wr (v4 + v5) ≤ 22; omega
  · show v6 ≤ wr (v6 + v7); omega
  · show wr (v6 + v7) ≤ 319; omega
structure MnD (m : SMine) : Prop where
  n0 : 2 ≤ m.Places.n
  n1 : m.Places.n ≤ 7
  ok : MineOK m
theorem Codes_Mine_ex {c : SCodes} (hc : CdOK c) : ∃ m b, Codes_Mine c = some (m, b) ∧ MnD m := by
  obtain ⟨w, b0, e0, l0, u0, p0, q0, _⟩ := Codes_Next_ex hc 6 (by omega)
  have q0 := q0 (by omega)
  have key := loop_ex (step := fun v : Int × Int × Sq SPlace => Codes_Mine_l3_step c.l_ v.1 v.2.1 v.2.2)
    (fun v => 0 ≤ v.1 ∧ 0 ≤ v.2.1 ∧ v.2.1 ≤ 300 ∧ (v.2.2.n : Int) + v.1 = w + 2 ∧ ∀ k, k < v.2.2.n → -10000 ≤ (v.2.2.f k).Height ∧ (v.2.2.f k).Height ≤ 10000) (fun v => v.1.toNat)
    (fun z => ∃ y, z = .inl y ∧ 0 ≤ y.1 ∧ y.1 ≤ 300 ∧ (y.2.n : Int) = w + 2 ∧ ∀ k, k < y.2.n → -10000 ≤ (y.2.f k).Height ∧ (y.2.f k).Height ≤ 10000) (fun v hv => by
      obtain ⟨n, a, P⟩ := v
      obtain ⟨h1, h2, h3, h4, h5⟩ := hv
      dsimp only at h1 h2 h3 h4 h5 ⊢
      unfold Codes_Mine_l3_step
      by_cases c0 : n > 0
      · obtain ⟨v1, a1, e1, l1, u1, x1, y1⟩ := Codes_Range_ex (hc.at h2 h3) (-60) 60 (by omega) (by omega) (by omega)
        obtain ⟨v2, a2, e2, l2, u2⟩ := Codes_One_ex (hc.at l1 u1) 5 (by omega)
        rw [get_t (decide_eq_true c0), get_bind e1, get_bind e2, get_t (decide_eq_true ⟨by omega, by omega⟩), wr_ok (by omega) (by omega)]
        refine ⟨_, rfl, ⟨by dsimp only; omega, l2, u2, by dsimp only; omega, fun k hk => ?_⟩, by dsimp only; omega⟩
        dsimp only at hk ⊢
        by_cases ck : k < P.n
        · rw [blt_t ck]; exact h5 k ck
        · rw [blt_f (by omega)]; dsimp only [cond]; omega
      · rw [get_f (decide_eq_false c0)]
        exact ⟨_, rfl, _, rfl, h2, h3, by dsimp only; omega, h5⟩)
    (1 + w, b0, ⟨1, fun _ => ⟨0, true⟩⟩) ⟨by dsimp only; omega, l0, u0, by dsimp only; omega, fun k _ => by dsimp only; omega⟩
  obtain ⟨z, hz, y, rfl, y0, y1, yn, yh⟩ := key
  obtain ⟨w2, b2, e2, l2, u2, p2, q2, _⟩ := Codes_Next_ex (hc.at y0 y1) 9 (by omega)
  have q2 := q2 (by omega)
  have key2 := loop_ex (step := fun v : Int × Int × Sq SRoad => Codes_Mine_l8_step c.l_ y.2 v.1 v.2.1 v.2.2)
    (fun v => 0 ≤ v.1 ∧ 0 ≤ v.2.1 ∧ v.2.1 ≤ 300 ∧ (v.2.2.n : Int) + v.1 = w2 ∧ ∀ k, k < v.2.2.n → roadE (v.2.2.f k) y.2.n = 0) (fun v => v.1.toNat)
    (fun z => ∃ x, z = .inl x ∧ (x.2.n : Int) = w2 ∧ ∀ k, k < x.2.n → roadE (x.2.f k) y.2.n = 0) (fun v hv => by
      obtain ⟨n, a, R⟩ := v
      obtain ⟨h1, h2, h3, h4, h5⟩ := hv
      dsimp only at h1 h2 h3 h4 h5 ⊢
      unfold Codes_Mine_l8_step
      by_cases c0 : n > 0
      · obtain ⟨v1, a1, f1, l1, u1, x1, y1', _⟩ := Codes_Next_ex (hc.at h2 h3) (y.2.n : Int) (by omega)
        have y1' := y1' (by omega)
        have z0 : wr ((y.2.n : Int) - 1) = (y.2.n : Int) - 1 := wr_ok (by omega) (by omega)
        obtain ⟨v2, a2, f2, l2, u2, x2, y2, _⟩ := Codes_Next_ex (hc.at l1 u1) (wr ((y.2.n : Int) - 1)) (by omega)
        have y2 := y2 (by omega)
        rw [z0] at y2
        have z2 : wr (wr (v1 + 1) + v2) = v1 + 1 + v2 := by rw [wr_ok (x := v1 + 1) (by omega) (by omega)]; exact wr_ok (by omega) (by omega)
        obtain ⟨t0, t1, tn⟩ : 0 ≤ Int.tmod (v1 + 1 + v2) y.2.n ∧ Int.tmod (v1 + 1 + v2) y.2.n < y.2.n ∧ Int.tmod (v1 + 1 + v2) y.2.n ≠ v1 := by
          by_cases c : v1 + 1 + v2 < y.2.n
          · rw [Int.tmod_eq_of_lt (by omega) c]; omega
          · rw [Int.tmod_eq_emod_of_nonneg (by omega), show v1 + 1 + v2 = (v1 + 1 + v2 - y.2.n) + y.2.n by omega, Int.add_emod_right, Int.emod_eq_of_lt (by omega) (by omega)]
            omega
        obtain ⟨r, a3, f3, l3, u3, rd, rf, rt, rl0, rl1, rl2⟩ := Codes_Road_all (hc.at l2 u2) v1 (Int.tmod (v1 + 1 + v2) y.2.n)
        obtain ⟨cl, a4, f4, l4, u4⟩ := Codes_One_ex (hc.at l3 u3) 6 (by omega)
        rw [get_t (decide_eq_true c0), get_bind f1, get_bind f2, get_t (by simp; omega), z2, get_bind f3, get_bind f4, get_t (decide_eq_true ⟨by omega, by omega⟩), wr_ok (by omega) (by omega)]
        refine ⟨_, rfl, ⟨by dsimp only; omega, l4, u4, by dsimp only; omega, fun k hk => ?_⟩, by dsimp only; omega⟩
        dsimp only at hk ⊢
        rw [road_app (R := R.f) (r := { r with Closed := cl })]
        split
        · rename_i ck; exact h5 k ck
        · have d0 := rd.l0
          have d1 := rd.l1
          have d2 := rd.a0
          have d3 := rd.a1
          have d4 := rd.r0
          have d5 := rd.r1
          have d6 := rd.r2
          unfold roadE
          dsimp only
          rw [if_neg (by omega), if_neg (by omega), if_neg (by omega), if_neg (by omega), if_neg (by omega), if_neg (by omega), if_neg (by omega)]
      · rw [get_f (decide_eq_false c0)]
        exact ⟨_, rfl, _, rfl, by dsimp only; omega, h5⟩)
    (w2, b2, ⟨0, fun _ => ⟨0, 0, 0, 0, false, false, ⟨0, 0⟩, ⟨0, 0⟩⟩⟩) ⟨p2, l2, u2, by dsimp only; omega, fun k hk => absurd hk (Nat.not_lt_zero _)⟩
  obtain ⟨z', hz', x, rfl, xn, xr⟩ := key2
  rw [Codes_Mine_eq]; unfold Codes_Mine_t
  rw [get_bind e0]
  dsimp only
  rw [wr_ok (by omega) (by omega), get_sum (by rw [Codes_Mine_l3_eq]; exact hz)]
  dsimp only [Sum.elim]
  rw [get_bind e2]
  dsimp only
  rw [get_sum (by rw [Codes_Mine_l8_eq]; exact hz')]
  exact ⟨_, _, rfl, by dsimp only; omega, by dsimp only; omega, ⟨by dsimp only; omega, by dsimp only; omega, yh, xr⟩⟩
/-! ### A road closed, or opened -/
structure Ed (m m' : SMine) (i : Nat) (b : Bool) : Prop where
  pn : m'.Places.n = m.Places.n
  pf : ∀ j, m'.Places.f j = m.Places.f j
  rn : m'.Roads.n = m.Roads.n
  rf : ∀ j, m'.Roads.f j = if j = i then { m.Roads.f i with Closed := b } else m.Roads.f j
theorem Ed.ok {m m' : SMine} {i : Nat} {b : Bool} (h : Ed m m' i b) (ok : MineOK m) (hi : i < m.Roads.n) : MineOK m' := by
  have pn := h.pn
  have rn := h.rn
  refine ⟨by rw [pn]; exact ok.np, by rw [rn]; exact ok.nr, fun j hj => by rw [h.pf]; exact ok.h j (by omega), fun j hj => ?_⟩
  rw [h.rf, pn]
  split
  · exact ok.r i hi
  · exact ok.r j (by omega)
theorem Apply_ex {m : SMine} (ok : MineOK m) (hp : 0 < m.Places.n) {i : Nat} (hi : i < m.Roads.n) {b : Bool} (hb : (m.Roads.f i).Closed = !b) {kd : Int} (hk : kd = cond b 3 4) (pl : SPlace) (rd : SRoad) (sp : SSpan) :
    ∃ m', plan_Apply m ⟨kd, pl, rd, i, sp⟩ = some (m', 0) ∧ Ed m m' i b := by
  have np := ok.np
  have nr := ok.nr
  have eh : plan_hasRoad m i = some true := by
    rw [plan_hasRoad_eq]; unfold plan_hasRoad_t
    rw [last_nat2 (by omega) (by omega), get_bind (plan_within_v _ _ _), decide_eq_true (by omega)]; rfl
  have ec : plan_Check m = some 0 := by rw [plan_Check_v, (mineE_ok m).2 ok]
  have e1 : plan_checkEdit m ⟨kd, pl, rd, i, sp⟩ = some 0 := by
    rw [plan_checkEdit_eq]; unfold plan_checkEdit_t
    cases b with
    | true =>
      obtain rfl : kd = 3 := hk
      dsimp only
      rw [get_f (show ((3 : Int) == 1) = false from rfl), get_f (show ((3 : Int) == 2) = false from rfl), get_t (show ((3 : Int) == 3) = true from rfl), get_bind eh, get_f (b := !true) rfl, get_t (dix hi), get_t (show ((3 : Int) == 3) = true from rfl), toNat_nat, get_f (by rw [hb]; rfl), get_f (show ((3 : Int) == 4) = false from rfl)]; rfl
    | false =>
      obtain rfl : kd = 4 := hk
      dsimp only
      rw [get_f (show ((4 : Int) == 1) = false from rfl), get_f (show ((4 : Int) == 2) = false from rfl), get_f (show ((4 : Int) == 3) = false from rfl), get_t (show ((4 : Int) == 4) = true from rfl), get_bind eh, get_f (b := !true) rfl, get_t (dix hi), get_f (show ((4 : Int) == 3) = false from rfl), get_t (show ((4 : Int) == 4) = true from rfl), toNat_nat, get_f (by rw [hb]; rfl)]; rfl
  have e2 : plan_clone m = some ⟨⟨0 + m.Places.n, m.Places.f⟩, ⟨0 + m.Roads.n, m.Roads.f⟩⟩ := by
    have a1 : slices_Clone_Place m.Places = some ⟨0 + m.Places.n, m.Places.f⟩ := by
      rw [slices_Clone_Place_eq]; unfold slices_Clone_Place_t
      rw [get_t (decide_eq_true hp), get_t (decide_eq_true ⟨by omega, by omega⟩)]; rfl
    have a2 : slices_Clone_Road m.Roads = some ⟨0 + m.Roads.n, m.Roads.f⟩ := by
      rw [slices_Clone_Road_eq]; unfold slices_Clone_Road_t
      rw [get_t (decide_eq_true (by omega)), get_t (decide_eq_true ⟨by omega, by omega⟩)]; rfl
    rw [plan_clone_eq]; unfold plan_clone_t
    rw [get_bind a1, get_bind a2]; rfl
  have e3 : ∃ m', plan_edit m ⟨kd, pl, rd, i, sp⟩ = some m' ∧ Ed m m' i b := by
    have hR : ∀ k, (SRoad.mk (cond (Nat.beq k i) (m.Roads.f i).From (m.Roads.f k).From) (cond (Nat.beq k i) (m.Roads.f i).To (m.Roads.f k).To) (cond (Nat.beq k i) (m.Roads.f i).Length (m.Roads.f k).Length) (cond (Nat.beq k i) (m.Roads.f i).Area (m.Roads.f k).Area) (cond (Nat.beq k i) (m.Roads.f i).Walk (m.Roads.f k).Walk) (cond (Nat.beq k i) b (m.Roads.f k).Closed) (SSpan.mk (cond (Nat.beq k i) (m.Roads.f i).Rest.Low (m.Roads.f k).Rest.Low) (cond (Nat.beq k i) (m.Roads.f i).Rest.High (m.Roads.f k).Rest.High)) (SSpan.mk (cond (Nat.beq k i) (m.Roads.f i).Lift.Low (m.Roads.f k).Lift.Low) (cond (Nat.beq k i) (m.Roads.f i).Lift.High (m.Roads.f k).Lift.High))) = if k = i then { m.Roads.f i with Closed := b } else m.Roads.f k := fun k => by
      by_cases c : k = i
      · rw [beq_t c, if_pos c]; rfl
      · rw [beq_f c, if_neg c]; rfl
    rw [plan_edit_eq]; unfold plan_edit_t
    rw [get_bind e2]
    cases b with
    | true =>
      obtain rfl : kd = 3 := hk
      dsimp only
      rw [get_f (show ((3 : Int) == 1) = false from rfl), get_f (show ((3 : Int) == 2) = false from rfl), get_t (show ((3 : Int) == 3) = true from rfl), get_t (decide_eq_true ⟨by omega, by omega⟩), toNat_nat]
      exact ⟨_, rfl, Nat.zero_add _, fun _ => rfl, Nat.zero_add _, hR⟩
    | false =>
      obtain rfl : kd = 4 := hk
      dsimp only
      rw [get_f (show ((4 : Int) == 1) = false from rfl), get_f (show ((4 : Int) == 2) = false from rfl), get_f (show ((4 : Int) == 3) = false from rfl), get_t (show ((4 : Int) == 4) = true from rfl), get_t (decide_eq_true ⟨by omega, by omega⟩), toNat_nat]
      exact ⟨_, rfl, Nat.zero_add _, fun _ => rfl, Nat.zero_add _, hR⟩
  obtain ⟨m', e3, h⟩ := e3
  have e4 : plan_Check m' = some 0 := by rw [plan_Check_v, (mineE_ok m').2 (h.ok ok hi)]
  refine ⟨m', ?_, h⟩
  rw [plan_Apply_eq]; unfold plan_Apply_t
  rw [get_bind ec, get_f (show ((0 : Int) != 0) = false from rfl), get_bind e1, get_f (show ((0 : Int) != 0) = false from rfl), get_bind e3, get_bind e4, get_f (show ((0 : Int) != 0) = false from rfl)]; rfl
theorem Ints_ex {a b : Sq Int} (n : a.n ≤ 1000) (h1 : a.n = b.n) (h : ∀ j, j < a.n → a.f j = b.f j) : ref01_Ints a b = some true := by
  rw [ref01_Ints_eq]; unfold ref01_Ints_t
  have k1 : ref01_Ints_l4 a b 0 = some (.inl ()) := by
    rw [ref01_Ints_l4_eq]
    refine (loop_first (step := fun v => ref01_Ints_l4_step a b v) (n := a.n) (fun _ => none) (fun i hi => ?_) ?_ a.n 0 (Nat.zero_add _)).trans ?_
    · unfold ref01_Ints_l4_step
      rw [get_t (dlt hi), get_t (dix hi), get_t (dix (by omega)), toNat_nat, h i hi, get_f (by simp), wr_next (by omega)]; rfl
    · unfold ref01_Ints_l4_step
      rw [get_f (dge (Nat.le_refl _))]; rfl
    · rw [firstN_all fun _ _ _ => rfl]
  rw [get_f (by rw [h1]; simp), get_sum k1]; rfl
/-! ### The sanity check -/
def M0 : SMine := ⟨⟨2, fun k => ⟨cond (Nat.beq k 0) 0 0, cond (Nat.beq k 0) true false⟩⟩, ⟨1, fun _ => ⟨0, 1, 1, 1, false, false, ⟨1, 1⟩, ⟨0, 0⟩⟩⟩⟩
theorem M0_ok : MineOK M0 := by
  refine ⟨by show 2 ≤ 64; omega, by show 1 ≤ 128; omega, fun i _ => ?_, fun i _ => ?_⟩
  · show -10000 ≤ cond (Nat.beq i 0) (0 : Int) 0 ∧ cond (Nat.beq i 0) (0 : Int) 0 ≤ 10000
    cases Nat.beq i 0 <;> exact ⟨by decide, by decide⟩
  · show roadE ⟨0, 1, 1, 1, false, false, ⟨1, 1⟩, ⟨0, 0⟩⟩ ((2 : Nat) : Int) = 0
    decide
theorem awake_true : law01_awake = some true := by
  obtain ⟨m', e1, h⟩ := Apply_ex M0_ok (by decide) (i := 0) (by decide) (b := true) rfl rfl ⟨0, false⟩ ⟨0, 0, 0, 0, false, false, ⟨0, 0⟩, ⟨0, 0⟩⟩ ⟨0, 0⟩
  have ev : plan_Valid M0 = some true := by
    rw [plan_Valid_eq]; unfold plan_Valid_t
    rw [get_bind (plan_Check_v M0), (mineE_ok M0).2 M0_ok]; rfl
  obtain ⟨c, e2, _, hc⟩ := CutOff_ex M0_ok
  have en : c.n = 0 := by
    rcases Nat.eq_zero_or_pos c.n with q | q
    · exact q
    · have k := (hc (c.f 0)).1 ⟨0, q, rfl⟩
      have k1 := k.1
      have k2 : c.f 0 < 2 := k.2.1
      have ed : Edg M0.Roads 0 1 := ⟨0, by decide, rfl, .inl ⟨rfl, rfl⟩⟩
      have cn : Conn M0.Roads (c.f 0) 0 := by
        rcases (show c.f 0 = 0 ∨ c.f 0 = 1 by omega) with z | z
        · rw [z]; exact .refl _ _
        · rw [z]; exact (Conn.refl _ _).edg ed.symm
      have := k.2.2 0 (by omega) (by decide) cn
      cases this
  have np := h.pn
  have ok' := h.ok M0_ok (by decide)
  obtain ⟨d, e3, hd, hd2⟩ := CutOff_ex ok'
  have noE : ∀ u v, ¬ Edg m'.Roads u v := fun u v ⟨i, i1, i2, _⟩ => by
    rw [h.rn] at i1
    have i1 : i < 1 := i1
    rw [h.rf, if_pos (by omega)] at i2
    cases i2
  have same : ∀ u v, Conn m'.Roads u v → v = u := fun u v k => k (fun x => x = u) (fun a b e _ => absurd e (noE a b)) rfl
  have cut1 : ∀ v, Cut m' v ↔ v = 1 := fun v => by
    constructor
    · rintro ⟨v0, v1, v2⟩
      rw [np] at v1
      have v1 : v < 2 := v1
      rcases (show v = 0 ∨ v = 1 by omega) with q | q
      · subst q
        have := v2 0 (by omega) (by rw [np]; decide) (.refl _ _)
        rw [h.pf] at this
        cases this
      · exact q
    · rintro rfl
      refine ⟨by omega, by rw [np]; decide, fun w _ _ k => ?_⟩
      rw [same _ _ k, h.pf]; rfl
  obtain ⟨j, hj, ej⟩ := (hd2 1).2 ((cut1 1).2 rfl)
  have all1 : ∀ k, k < d.n → d.f k = 1 := fun k hk => (cut1 _).1 ((hd2 _).1 ⟨k, hk, rfl⟩)
  have dn : d.n = 1 := by
    rcases (show d.n = 1 ∨ 1 < d.n by omega) with q | q
    · exact q
    · have := hd.dis 0 1 (by omega) q (by rw [all1 0 (by omega), all1 1 q])
      omega
  have e4 : ref01_Ints d ⟨1, fun _ => 1⟩ = some true := Ints_ex (by omega) dn fun k hk => all1 k hk
  rw [law01_awake_eq]; unfold law01_awake_t
  refine (get_bind e1).trans ?_
  refine (get_bind ev).trans ?_
  rw [get_t rfl]
  refine (get_bind e2).trans ?_
  rw [en, get_t (show (((0 : Nat) : Int) == 0) = true from rfl), get_t (show ((0 : Int) == 0) = true from rfl)]
  refine (get_bind e3).trans ?_
  rw [get_bind e4]; rfl
end Go.Proofs.Ytkgcicbipcifdaa.Ab
