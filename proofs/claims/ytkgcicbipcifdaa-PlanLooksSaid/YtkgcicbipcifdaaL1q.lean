/- Stage 1: the parts of a mine, what is cut off; mines that are drawn; a road closed and opened. -/
import Derived.Test.YtkgcicbipcifdaaL1p
namespace Go.Proofs.Ytkgcicbipcifdaa.Ab
open Go

theorem Edg.rng {m : SMine} (ok : MineOK m) {u v : Int} (e : Edg m.Roads u v) : (0 ≤ u ∧ u < m.Places.n) ∧ 0 ≤ v ∧ v < m.Places.n := by
  obtain ⟨i, i1, i2, i3⟩ := e
  have := road_ends ok i1
  rcases i3 with ⟨rfl, rfl⟩ | ⟨rfl, rfl⟩ <;> omega
/-! ### Parts -/
structure PtsOK (m : SMine) (L : Sq (Sq Int)) : Prop where
  d : ∀ i, i < L.n → Dis (L.f i)
  c : ∀ i, i < L.n → ∃ r : Int, 0 ≤ r ∧ r < m.Places.n ∧ ∀ v, In (L.f i) v ↔ 0 ≤ v ∧ v < m.Places.n ∧ Conn m.Roads r v
  u : ∀ i j, i < L.n → j < L.n → ∀ v, In (L.f i) v → In (L.f j) v → i = j
theorem PtsOK.conn {m : SMine} {L : Sq (Sq Int)} (h : PtsOK m L) {i : Nat} (hi : i < L.n) {u v : Int} (hu : In (L.f i) u) : In (L.f i) v ↔ 0 ≤ v ∧ v < m.Places.n ∧ Conn m.Roads u v := by
  obtain ⟨r, r0, r1, hr⟩ := h.c i hi
  have a := (hr u).1 hu
  rw [hr v]
  exact ⟨fun q => ⟨q.1, q.2.1, a.2.2.symm.trans q.2.2⟩, fun q => ⟨q.1, q.2.1, a.2.2.trans q.2.2⟩⟩
theorem PtsOK.one {m : SMine} {L : Sq (Sq Int)} (h : PtsOK m L) {i : Nat} (hi : i < L.n) : ∃ r, In (L.f i) r := by
  obtain ⟨r, r0, r1, hr⟩ := h.c i hi
  exact ⟨r, (hr r).2 ⟨r0, r1, .refl _ _⟩⟩
theorem Parts_ex {m : SMine} (ok : MineOK m) : ∃ L, plan_Parts m = some L ∧ PtsOK m L ∧ ∀ v : Nat, v < m.Places.n → ∃ i, i < L.n ∧ In (L.f i) v := by
  have np := ok.np
  have key := loop_ex (step := fun v : Sq (Sq Int) × Sq Bool × Int => plan_Parts_l6_step m.Places m.Roads v.1 v.2.1 v.2.2)
    (fun v => ∃ p : Nat, v.2.2 = p ∧ p ≤ m.Places.n ∧ v.1.n ≤ p ∧ v.2.1.n = m.Places.n ∧ PtsOK m v.1 ∧ (∀ w : Nat, w < m.Places.n → (v.2.1.f w = true ↔ ∃ i, i < v.1.n ∧ In (v.1.f i) w)) ∧ ∀ w : Nat, w < p → v.2.1.f w = true)
    (fun v => m.Places.n - v.2.2.toNat)
    (fun z => ∃ y, z = .inl y ∧ PtsOK m y.1 ∧ ∀ v : Nat, v < m.Places.n → ∃ i, i < y.1.n ∧ In (y.1.f i) v) (fun v hv => by
      obtain ⟨L, s, x⟩ := v
      obtain ⟨p, rfl, hp, hl, hs, P, h1, h2⟩ := hv
      dsimp only at hl hs P h1 h2 ⊢
      unfold plan_Parts_l6_step
      by_cases c : p < m.Places.n
      · rw [get_t (dlt c), get_t (dix (by omega)), toNat_nat, wr_next (by omega)]
        by_cases cs : s.f p = true
        · rw [get_f (by rw [cs]; rfl)]
          refine ⟨_, rfl, ⟨p + 1, rfl, by omega, by dsimp only; omega, hs, P, h1, fun w hw => ?_⟩, by dsimp only; omega⟩
          by_cases cw : w < p
          · exact h2 w cw
          · obtain rfl : w = p := by omega
            exact cs
        · have cs' : s.f p = false := by simpa using cs
          let S : Int → Prop := fun v => ∃ i, i < L.n ∧ In (L.f i) v
          have hS : Cl m.Roads S := fun u v e hu => by
            obtain ⟨i, i1, i2⟩ := hu
            exact ⟨i, i1, (P.conn i1 i2).2 ⟨(e.rng ok).2.1, (e.rng ok).2.2, (Conn.refl _ u).edg e⟩⟩
          have hf : ¬ S (p : Int) := fun q => cs ((h1 p c).2 q)
          obtain ⟨l, s', e, sn', dl, il, sl⟩ := part_ex ok hS (first := (p : Int)) (by omega) (by omega) hf hs (fun v hv => h1 v hv)
          rw [get_t (by rw [cs']; rfl), get_bind e, get_t (decide_eq_true ⟨by omega, by omega⟩)]
          have e1 : ∀ k, (Sq.mk (cond (Nat.blt k L.n) (L.f k).n l.n) (fun k1 => cond (Nat.blt k L.n) ((L.f k).f k1) (l.f k1)) : Sq Int) = if k < L.n then L.f k else l := fun k => by
            by_cases h : k < L.n
            · rw [blt_t h, if_pos h]; rfl
            · rw [blt_f (by omega), if_neg h]; rfl
          have hlp : In l (p : Int) := (il p).2 ⟨by omega, by omega, .refl _ _⟩
          have dj : ∀ i, i < L.n → ∀ v, In (L.f i) v → In l v → False := fun i hi v h3 h4 => by
            have q := ((il v).1 h4).2.2.symm
            exact hf ⟨i, hi, (P.conn hi h3).2 ⟨by omega, by omega, q⟩⟩
          have hin : ∀ w, (∃ i, i < L.n + 1 ∧ In (if i < L.n then L.f i else l) w) ↔ (∃ i, i < L.n ∧ In (L.f i) w) ∨ In l w := fun w => by
            constructor
            · rintro ⟨i, hi, q⟩
              by_cases h : i < L.n
              · rw [if_pos h] at q; exact .inl ⟨i, h, q⟩
              · rw [if_neg h] at q; exact .inr q
            · rintro (⟨i, hi, q⟩ | q)
              · exact ⟨i, by omega, by rw [if_pos hi]; exact q⟩
              · exact ⟨L.n, by omega, by rw [if_neg (Nat.lt_irrefl _)]; exact q⟩
          refine ⟨_, rfl, ⟨p + 1, rfl, by omega, by dsimp only; omega, sn', ⟨fun i hi => ?_, fun i hi => ?_, fun i j hi hj v hv hv' => ?_⟩, fun w hw => ?_, fun w hw => ?_⟩, by dsimp only; omega⟩
          · dsimp only at hi ⊢
            rw [e1]
            split
            · rename_i h; exact P.d i h
            · exact dl.dis
          · dsimp only at hi ⊢
            rw [e1]
            split
            · rename_i h; exact P.c i h
            · exact ⟨p, by omega, by omega, il⟩
          · dsimp only at hi hj hv hv'
            rw [e1] at hv hv'
            by_cases a1 : i < L.n
            · rw [if_pos a1] at hv
              by_cases a2 : j < L.n
              · rw [if_pos a2] at hv'; exact P.u i j a1 a2 v hv hv'
              · rw [if_neg a2] at hv'; exact (dj i a1 v hv hv').elim
            · rw [if_neg a1] at hv
              by_cases a2 : j < L.n
              · rw [if_pos a2] at hv'; exact (dj j a2 v hv' hv).elim
              · omega
          · dsimp only
            rw [sl w hw]
            have : (∃ i, i < L.n + 1 ∧ In (Sq.mk (cond (Nat.blt i L.n) (L.f i).n l.n) (fun k1 => cond (Nat.blt i L.n) ((L.f i).f k1) (l.f k1)) : Sq Int) w) ↔ ∃ i, i < L.n + 1 ∧ In (if i < L.n then L.f i else l) w := ⟨fun ⟨i, a, b⟩ => ⟨i, a, by rw [← e1]; exact b⟩, fun ⟨i, a, b⟩ => ⟨i, a, by rw [e1]; exact b⟩⟩
            rw [this, hin, il w]
            exact ⟨fun q => q.imp_right fun q => ⟨by omega, by omega, q⟩, fun q => q.imp_right fun q => q.2.2⟩
          · dsimp only
            rw [sl w (by omega)]
            by_cases cw : w < p
            · exact .inl ((h1 w (by omega)).1 (h2 w cw))
            · obtain rfl : w = p := by omega
              exact .inr (.refl _ _)
      · obtain rfl : p = m.Places.n := by omega
        rw [get_f (dge (Nat.le_refl _))]
        exact ⟨_, rfl, _, rfl, P, fun v hv => (h1 v hv).1 (h2 v hv)⟩)
    (⟨0, fun _ => ⟨0, fun _ => 0⟩⟩, ⟨m.Places.n, fun _ => false⟩, 0) ⟨0, rfl, by omega, Nat.le_refl _, rfl, ⟨fun i hi => absurd hi (Nat.not_lt_zero _), fun i hi => absurd hi (Nat.not_lt_zero _), fun i j hi => absurd hi (Nat.not_lt_zero _)⟩, fun w _ => ⟨fun h => (nomatch h), fun ⟨i, hi, _⟩ => absurd hi (Nat.not_lt_zero _)⟩, fun w hw => absurd hw (Nat.not_lt_zero _)⟩
  obtain ⟨z, hz, y, rfl, g⟩ := key
  have ev : plan_Valid m = some true := by
    rw [plan_Valid_eq]; unfold plan_Valid_t
    rw [get_bind (plan_Check_v m), (mineE_ok m).2 ok]; rfl
  rw [plan_Parts_eq]; unfold plan_Parts_t
  rw [get_bind ev, get_f (b := !true) rfl, get_t (decide_eq_true ⟨by omega, by omega, by omega, by omega⟩), toNat_nat, get_sum (by rw [plan_Parts_l6_eq]; exact hz)]
  exact ⟨_, rfl, g⟩
/-! ### What is cut off -/
def Cut (m : SMine) (v : Int) : Prop := 0 ≤ v ∧ v < m.Places.n ∧ ∀ w : Int, 0 ≤ w → w < m.Places.n → Conn m.Roads v w → (m.Places.f w.toNat).Surface = false
theorem Contains_v {m : SMine} {l : Sq Int} (hn : l.n ≤ 1000) (hl : ∀ v, In l v → 0 ≤ v ∧ v < m.Places.n) : ∃ b, slices_ContainsFunc_cut l m = some b ∧ (b = true ↔ ∃ v, In l v ∧ (m.Places.f v.toNat).Surface = true) := by
  have e1 : ∃ z, slices_IndexFunc_cut l m = some z ∧ ((z = -1 ∧ ∀ v, In l v → (m.Places.f v.toNat).Surface = false) ∨ (0 ≤ z ∧ ∃ v, In l v ∧ (m.Places.f v.toNat).Surface = true)) := by
    have key := loop_ex (step := fun v : Int => slices_IndexFunc_cut_l2_step l m.Places m.Roads v)
      (fun v => ∃ j : Nat, v = j ∧ j ≤ l.n ∧ ∀ k, k < j → (m.Places.f (l.f k).toNat).Surface = false) (fun v => l.n - v.toNat)
      (fun z => (z = .inl () ∧ ∀ v, In l v → (m.Places.f v.toNat).Surface = false) ∨ ∃ y : Int, z = .inr y ∧ 0 ≤ y ∧ ∃ v, In l v ∧ (m.Places.f v.toNat).Surface = true) (fun v hv => by
        obtain ⟨j, rfl, hj, h⟩ := hv
        unfold slices_IndexFunc_cut_l2_step
        by_cases c : j < l.n
        · have b := hl _ ⟨j, c, rfl⟩
          have e : plan_CutOff_1 (l.f j) ⟨m.Places, m.Roads⟩ = some (m.Places.f (l.f j).toNat).Surface := by
            rw [plan_CutOff_1_eq]; unfold plan_CutOff_1_t
            rw [get_t (decide_eq_true b)]; rfl
          rw [get_t (dlt c), get_t (dix c), toNat_nat, get_bind e, wr_next (by omega)]
          by_cases su : (m.Places.f (l.f j).toNat).Surface = true
          · rw [get_t su]; exact ⟨_, rfl, .inr ⟨_, rfl, by omega, _, ⟨j, c, rfl⟩, su⟩⟩
          · rw [get_f (by simpa using su)]
            refine ⟨_, rfl, ⟨j + 1, rfl, by omega, fun k hk => ?_⟩, by omega⟩
            by_cases ck : k < j
            · exact h k ck
            · obtain rfl : k = j := by omega
              simpa using su
        · obtain rfl : j = l.n := by omega
          rw [get_f (dge (Nat.le_refl _))]
          exact ⟨_, rfl, .inl ⟨rfl, fun v ⟨k, hk, e⟩ => by rw [← e]; exact h k hk⟩⟩)
      0 ⟨0, rfl, by omega, fun k hk => absurd hk (Nat.not_lt_zero _)⟩
    obtain ⟨z, hz, g⟩ := key
    rw [slices_IndexFunc_cut_eq]; unfold slices_IndexFunc_cut_t
    rw [get_sum (by rw [slices_IndexFunc_cut_l2_eq]; exact hz)]
    rcases g with ⟨rfl, g⟩ | ⟨y, rfl, g⟩
    · exact ⟨_, rfl, .inl ⟨rfl, g⟩⟩
    · exact ⟨_, rfl, .inr g⟩
  obtain ⟨z, ez, h⟩ := e1
  rw [slices_ContainsFunc_cut_eq]; unfold slices_ContainsFunc_cut_t
  rw [get_bind ez]
  refine ⟨_, rfl, ?_⟩
  rw [decide_eq_true_eq]
  rcases h with ⟨rfl, h⟩ | ⟨h0, h⟩
  · exact ⟨fun q => by omega, fun ⟨v, h1, h2⟩ => by rw [h v h1] at h2; cases h2⟩
  · exact ⟨fun _ => h, fun _ => h0⟩
theorem CutOff_ex {m : SMine} (ok : MineOK m) : ∃ c, plan_CutOff m = some c ∧ SA c ∧ ∀ v, In c v ↔ Cut m v := by
  obtain ⟨L, eL, P, ha⟩ := Parts_ex ok
  have rng : ∀ i, i < L.n → ∀ v, In (L.f i) v → 0 ≤ v ∧ v < m.Places.n := fun i hi v hv => by
    obtain ⟨r, _, _, hr⟩ := P.c i hi
    have := (hr v).1 hv
    exact ⟨this.1, this.2.1⟩
  have cutP : ∀ i, i < L.n → ∀ v, In (L.f i) v → (Cut m v ↔ ¬ ∃ w, In (L.f i) w ∧ (m.Places.f w.toNat).Surface = true) := fun i hi v hv => by
    constructor
    · rintro ⟨_, _, h⟩ ⟨w, w1, w2⟩
      have := (P.conn hi hv).1 w1
      rw [h w this.1 this.2.1 this.2.2] at w2
      cases w2
    · intro h
      have b := rng i hi v hv
      refine ⟨b.1, b.2, fun w w0 w1 w2 => ?_⟩
      cases hb : (m.Places.f w.toNat).Surface with
      | false => rfl
      | true => exact absurd ⟨w, (P.conn hi hv).2 ⟨w0, w1, w2⟩, hb⟩ h
  have key := loop_ex (step := fun v : Sq Int × Int => plan_CutOff_l4_step m.Places m.Roads L v.1 v.2)
    (fun v => ∃ j : Nat, v.2 = j ∧ j ≤ L.n ∧ Dis v.1 ∧ ∀ w, In v.1 w ↔ ∃ i, i < j ∧ In (L.f i) w ∧ Cut m w) (fun v => L.n - v.2.toNat)
    (fun z => ∃ c, z = .inl c ∧ Dis c ∧ ∀ w, In c w ↔ ∃ i, i < L.n ∧ In (L.f i) w ∧ Cut m w) (fun v hv => by
      obtain ⟨c, x⟩ := v
      obtain ⟨j, rfl, hj, hd, hc⟩ := hv
      dsimp only at hd hc ⊢
      have cb : ∀ w, In c w → 0 ≤ w ∧ w < m.Places.n := fun w hw => by obtain ⟨i, i1, i2, i3⟩ := (hc w).1 hw; exact ⟨i3.1, i3.2.1⟩
      have cl := hd.le cb
      have np := ok.np
      unfold plan_CutOff_l4_step
      by_cases cj : j < L.n
      · have pl := (P.d j cj).le (rng j cj)
        obtain ⟨b, eb, hb⟩ := Contains_v (m := m) (l := L.f j) (by omega) (rng j cj)
        have hL : L.n ≤ m.Places.n := by
          refine php m.Places.n L.n (fun i => if h : i < L.n then (Classical.choose (P.one h)).toNat else 0) (fun i hi => ?_) (fun i i' hi hi' e => ?_)
          · rw [dif_pos hi]; have := rng i hi _ (Classical.choose_spec (P.one hi)); omega
          · have e := e
            rw [dif_pos hi, dif_pos hi'] at e
            have q1 := Classical.choose_spec (P.one hi)
            have q2 := Classical.choose_spec (P.one hi')
            have r1 := rng i hi _ q1
            have r2 := rng i' hi' _ q2
            exact P.u i i' hi hi' _ q1 (by rw [show Classical.choose (P.one hi) = Classical.choose (P.one hi') by omega]; exact q2)
        rw [get_t (dlt cj), get_t (dix cj), toNat_nat, get_bind (show slices_ContainsFunc_cut (L.f j) ⟨m.Places, m.Roads⟩ = some b from eb), wr_next (by omega)]
        cases b with
        | true =>
          rw [get_f (b := !true) rfl]
          refine ⟨_, rfl, ⟨j + 1, rfl, by omega, hd, fun w => ?_⟩, by dsimp only; omega⟩
          rw [hc]
          constructor
          · rintro ⟨i, i1, i2⟩; exact ⟨i, by omega, i2⟩
          · rintro ⟨i, i1, i2, i3⟩
            by_cases ci : i < j
            · exact ⟨i, ci, i2, i3⟩
            · obtain rfl : i = j := by omega
              exact absurd (hb.1 rfl) ((cutP i cj w i2).1 i3)
        | false =>
          have nb : ¬ ∃ w, In (L.f j) w ∧ (m.Places.f w.toNat).Surface = true := fun q => by have := hb.2 q; cases this
          rw [get_t (b := !false) rfl, get_t (decide_eq_true ⟨by omega, by omega⟩)]
          have hf : ∀ k, cond (Nat.blt k c.n) (c.f k) ((L.f j).f (k - c.n)) = if k < c.n then c.f k else (L.f j).f (k - c.n) := fun k => cond_blt _ _ _ _
          have hin : ∀ w, In ⟨c.n + (L.f j).n, fun k => cond (Nat.blt k c.n) (c.f k) ((L.f j).f (k - c.n))⟩ w ↔ In c w ∨ In (L.f j) w := fun w => by
            constructor
            · rintro ⟨k, hk, e⟩
              dsimp only at hk e
              rw [hf] at e
              split at e
              · rename_i q; exact .inl ⟨k, q, e⟩
              · exact .inr ⟨k - c.n, by omega, e⟩
            · rintro (⟨k, hk, e⟩ | ⟨k, hk, e⟩)
              · exact ⟨k, by dsimp only; omega, by dsimp only; rw [hf, if_pos hk]; exact e⟩
              · exact ⟨c.n + k, by dsimp only; omega, by dsimp only; rw [hf, if_neg (by omega), show c.n + k - c.n = k by omega]; exact e⟩
          have dj : ∀ w, In c w → In (L.f j) w → False := fun w h1 h2 => by
            obtain ⟨i, i1, i2, _⟩ := (hc w).1 h1
            have := P.u i j (by omega) cj w i2 h2
            omega
          refine ⟨_, rfl, ⟨j + 1, rfl, by omega, fun a b ha hb' e => ?_, fun w => ?_⟩, by dsimp only; omega⟩
          · dsimp only at ha hb' e
            rw [hf, hf] at e
            split at e <;> split at e
            · exact hd a b (by omega) (by omega) e
            · exact (dj _ ⟨a, by omega, rfl⟩ ⟨b - c.n, by omega, e.symm⟩).elim
            · exact (dj _ ⟨b, by omega, rfl⟩ ⟨a - c.n, by omega, e⟩).elim
            · have := P.d j cj (a - c.n) (b - c.n) (by omega) (by omega) e; omega
          · dsimp only
            rw [hin, hc]
            constructor
            · rintro (⟨i, i1, i2⟩ | q)
              · exact ⟨i, by omega, i2⟩
              · exact ⟨j, by omega, q, (cutP j cj w q).2 nb⟩
            · rintro ⟨i, i1, i2, i3⟩
              by_cases ci : i < j
              · exact .inl ⟨i, ci, i2, i3⟩
              · obtain rfl : i = j := by omega
                exact .inr i2
      · obtain rfl : j = L.n := by omega
        rw [get_f (dge (Nat.le_refl _))]
        exact ⟨_, rfl, _, rfl, hd, hc⟩)
    (⟨0, fun _ => 0⟩, 0) ⟨0, rfl, by omega, fun i j hi => absurd hi (Nat.not_lt_zero _), fun w => ⟨fun ⟨k, hk, _⟩ => absurd hk (Nat.not_lt_zero _), fun ⟨i, hi, _⟩ => absurd hi (Nat.not_lt_zero _)⟩⟩
  obtain ⟨z, hz, c, rfl, hd, hc⟩ := key
  have hc2 : ∀ v, In c v ↔ Cut m v := fun v => by
    rw [hc]
    exact ⟨fun ⟨i, i1, i2, i3⟩ => i3, fun h => by
      obtain ⟨i, i1, i2⟩ := ha v.toNat (by have := h.1; have := h.2.1; omega)
      exact ⟨i, i1, by rw [show ((v.toNat : Nat) : Int) = v by have := h.1; omega] at i2; exact i2, h⟩⟩
  have cl := hd.le (n := m.Places.n) fun w hw => by have := (hc2 w).1 hw; exact ⟨this.1, this.2.1⟩
  obtain ⟨r, er, sa, hr⟩ := sort_ex c (by have := ok.np; omega) hd
  rw [plan_CutOff_eq]; unfold plan_CutOff_t
  rw [get_bind eL, get_sum (by rw [plan_CutOff_l4_eq]; exact hz)]
  dsimp only [Sum.elim]
  rw [get_bind er]
  exact ⟨r, rfl, sa, fun v => by rw [hr, hc2]⟩
end Go.Proofs.Ytkgcicbipcifdaa.Ab
