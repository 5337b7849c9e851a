/- Stage 1: PlanParts. -/
import Derived.Test.YthkdmemkjojmoaaU1r
import Derived.Test.YthkdmemkjojmoaaXu
namespace Go.Proofs.Ythkdmemkjojmoaa.Ab
open Go

theorem sumN_upd {g g' : Nat → Int} {d : Int} : ∀ {n p : Nat}, p < n → (∀ i, i ≠ p → g' i = g i) → g' p = g p + d → sumN g' n = sumN g n + d := by
  intro n
  induction n with
  | zero => intro p h; omega
  | succ n ih =>
    intro p hp h1 h2
    show sumN g' n + g' n = sumN g n + g n + d
    by_cases c : p = n
    · subst c
      rw [sumN_congr (g := g') (g' := g) (n := p) fun i hi => h1 i (by omega), h2]; omega
    · rw [ih (by omega) h1 h2, h1 n (by omega)]; omega
def cntN (o : Sq Int) (n : Nat) : Int := sumN (fun v => if o.f v = 0 then 0 else 1) n
theorem cntN_all {o : Sq Int} : ∀ {n : Nat}, (∀ v, v < n → o.f v ≠ 0) → cntN o n = n := by
  intro n
  induction n with
  | zero => intro _; rfl
  | succ n ih =>
    intro h
    show cntN o n + (if o.f n = 0 then 0 else 1) = _
    rw [ih fun v hv => h v (by omega), if_neg (h n (by omega))]; omega
theorem cntN_zero : ∀ {n k : Nat}, cntN ⟨k, fun _ => 0⟩ n = 0 := by
  intro n k
  induction n with
  | zero => rfl
  | succ n ih =>
    show cntN ⟨k, fun _ => 0⟩ n + (if (0 : Int) = 0 then 0 else 1) = _
    rw [ih]; rfl
theorem PtsOK.le {m : SMine} {L : Sq (Sq Int)} (h : PtsOK m L) : L.n ≤ m.Places.n :=
  php m.Places.n L.n (fun i => if c : i < L.n then (Classical.choose (h.one c)).toNat else 0) (fun i hi => by
    rw [dif_pos hi]
    obtain ⟨r, _, _, hr⟩ := h.c i hi
    have := (hr _).1 (Classical.choose_spec (h.one hi))
    omega) (fun i j hi hj e => by
    rw [dif_pos hi, dif_pos hj] at e
    obtain ⟨r, _, _, hr⟩ := h.c i hi
    obtain ⟨s, _, _, hs⟩ := h.c j hj
    have h1 := Classical.choose_spec (h.one hi)
    have h2 := Classical.choose_spec (h.one hj)
    have k1 := (hr _).1 h1
    have k2 := (hs _).1 h2
    exact h.u i j hi hj _ h1 (by rw [show Classical.choose (h.one hi) = Classical.choose (h.one hj) by omega]; exact h2))
def Srf (m : SMine) (v : Int) : Bool := (m.Places.f v.toNat).Surface
theorem l10_ex {m : SMine} (h12 : m.Places.n ≤ 12) {L : Sq (Sq Int)} (P : PtsOK m L) {c : Sq Int} (cn : c.n ≤ 1000) (hc : ∀ v, In c v ↔ Cut m v) {j : Nat} (hj : j < L.n) (total : Int) {o : Sq Int} (on : o.n = m.Places.n) (oz : ∀ v : Nat, In (L.f j) v → o.f v = 0) :
    ∃ y, law01_PlanParts_l10 m.Places m.Roads L c total j o false 0 0 = some (.inl y) ∧ y.2.2.n = m.Places.n ∧ ((y.1 = true ∧ y.2.1 = 0) ∨ (y.1 = false ∧ y.2.1 = (L.f j).n)) ∧ (∀ v : Nat, (In (L.f j) v → y.2.2.f v = j + 1) ∧ (¬ In (L.f j) v → y.2.2.f v = o.f v)) ∧ cntN y.2.2 m.Places.n = cntN o m.Places.n + (L.f j).n := by
  have Ln := P.le
  have D := P.d j hj
  have rng : ∀ k, k < (L.f j).n → 0 ≤ (L.f j).f k ∧ (L.f j).f k < m.Places.n := fun k hk => by
    obtain ⟨r, _, _, hr⟩ := P.c j hj
    have := (hr _).1 ⟨k, hk, rfl⟩
    exact ⟨this.1, this.2.1⟩
  have ln : (L.f j).n ≤ m.Places.n := D.le fun v ⟨k, hk, e⟩ => by rw [← e]; exact rng k hk
  have cut : ∀ k, k < (L.f j).n → (Cut m ((L.f j).f k) ↔ ∀ t, t < (L.f j).n → Srf m ((L.f j).f t) = false) := fun k hk => by
    constructor
    · intro h t ht
      exact h.2.2 _ (rng t ht).1 (rng t ht).2 ((P.conn hj ⟨k, hk, rfl⟩).1 ⟨t, ht, rfl⟩).2.2
    · intro h
      refine ⟨(rng k hk).1, (rng k hk).2, fun w w0 w1 cw => ?_⟩
      obtain ⟨t, ht, e⟩ := (P.conn hj ⟨k, hk, rfl⟩).2 ⟨w0, w1, cw⟩
      rw [← e]; exact h t ht
  generalize hl : L.f j = l at *
  have key := loop_ex (step := fun v : Sq Int × Bool × Int × Int => law01_PlanParts_l10_step m.Places m.Roads L c total j v.1 v.2.1 v.2.2.1 v.2.2.2)
    (fun v => ∃ k : Nat, v.2.2.2 = k ∧ k ≤ l.n ∧ v.1.n = m.Places.n ∧ (v.2.1 = true ↔ ∃ t, t < k ∧ Srf m (l.f t) = true) ∧ (((∀ t, t < l.n → Srf m (l.f t) = false) ∧ v.2.2.1 = k) ∨ ((∃ t, t < l.n ∧ Srf m (l.f t) = true) ∧ v.2.2.1 = 0)) ∧ (∀ t, t < k → v.1.f (l.f t).toNat = j + 1) ∧ (∀ w : Nat, (∀ t, t < k → (l.f t).toNat ≠ w) → v.1.f w = o.f w) ∧ cntN v.1 m.Places.n = cntN o m.Places.n + k)
    (fun v => l.n - v.2.2.2.toNat)
    (fun z => ∃ y, z = .inl y ∧ y.2.2.n = m.Places.n ∧ ((y.1 = true ∧ y.2.1 = 0) ∨ (y.1 = false ∧ y.2.1 = l.n)) ∧ (∀ v : Nat, (In l v → y.2.2.f v = j + 1) ∧ (¬ In l v → y.2.2.f v = o.f v)) ∧ cntN y.2.2 m.Places.n = cntN o m.Places.n + l.n) (fun v hv => by
      obtain ⟨q, airy, lost, x⟩ := v
      obtain ⟨k, h1, h2, h3, h4, h5, h6, h7, h8⟩ := hv
      dsimp only at h1 h3 h4 h5 h6 h7 h8 ⊢
      subst h1
      unfold law01_PlanParts_l10_step
      rw [get_t (dix hj), toNat_nat, hl]
      rcases Nat.lt_or_ge k l.n with hk | hk
      · have rk := rng k hk
        have wn : wr ((j : Int) + 1) = j + 1 := wr_ok (by omega) (by omega)
        obtain ⟨b, eb, hb⟩ := Has_v c cn (l.f k)
        have hb : b = true ↔ ∀ t, t < l.n → Srf m (l.f t) = false := hb.trans ((hc _).trans (cut k hk))
        have nz : q.f (l.f k).toNat = 0 := by
          rw [h7 _ fun t ht e => by
            have r1 := rng t (by omega)
            have := D t k (by omega) hk (by omega)
            omega]
          exact oz _ ⟨k, hk, by omega⟩
        have ms : l.n - (wr ((k : Int) + 1)).toNat < l.n - (k : Int).toNat := by rw [wr_next (by omega)]; omega
        have nx : ∀ (airy' : Bool) (lost' : Int), (airy' = true ↔ ∃ t, t < k + 1 ∧ Srf m (l.f t) = true) → (((∀ t, t < l.n → Srf m (l.f t) = false) ∧ lost' = k + 1) ∨ ((∃ t, t < l.n ∧ Srf m (l.f t) = true) ∧ lost' = 0)) →
            ∃ k2 : Nat, wr ((k : Int) + 1) = k2 ∧ k2 ≤ l.n ∧ q.n = m.Places.n ∧ (airy' = true ↔ ∃ t, t < k2 ∧ Srf m (l.f t) = true) ∧ (((∀ t, t < l.n → Srf m (l.f t) = false) ∧ lost' = k2) ∨ ((∃ t, t < l.n ∧ Srf m (l.f t) = true) ∧ lost' = 0)) ∧ (∀ t, t < k2 → cond (Nat.beq (l.f t).toNat (l.f k).toNat) (wr ((j : Int) + 1)) (q.f (l.f t).toNat) = j + 1) ∧ (∀ w : Nat, (∀ t, t < k2 → (l.f t).toNat ≠ w) → cond (Nat.beq w (l.f k).toNat) (wr ((j : Int) + 1)) (q.f w) = o.f w) ∧ cntN ⟨q.n, fun i => cond (Nat.beq i (l.f k).toNat) (wr ((j : Int) + 1)) (q.f i)⟩ m.Places.n = cntN o m.Places.n + k2 := fun airy' lost' a1 a2 => by
          refine ⟨k + 1, wr_next (by omega), hk, h3, a1, a2.elim (fun q => .inl ⟨q.1, by have := q.2; omega⟩) .inr, fun t ht => ?_, fun w hw => ?_, ?_⟩
          · by_cases c : (l.f t).toNat = (l.f k).toNat
            · rw [beq_t c]; exact wn
            · rw [beq_f c]
              have : t ≠ k := fun e => c (by rw [e])
              exact h6 t (by omega)
          · rw [beq_f (Ne.symm (hw k (by omega)))]
            exact h7 w fun t ht => hw t (by omega)
          · have := sumN_upd (g := fun v => if q.f v = 0 then 0 else 1) (g' := fun v => if cond (Nat.beq v (l.f k).toNat) (wr ((j : Int) + 1)) (q.f v) = 0 then 0 else 1) (d := 1) (n := m.Places.n) (p := (l.f k).toNat) (by omega) (fun i hi => by rw [beq_f hi]; rfl) (by
                rw [beq_t rfl, nz]
                show (if wr ((j : Int) + 1) = 0 then 0 else 1) = _
                rw [wn, if_neg (by omega), if_pos rfl]; omega)
            have h8' : sumN (fun v => if q.f v = 0 then 0 else 1) m.Places.n = cntN o m.Places.n + k := h8
            show sumN _ _ = _
            rw [this, h8']; omega
        have ex1 : ∀ {t : Nat}, t < k → t < k + 1 := fun h => by omega
        rw [get_t (dlt hk), get_t (dix hj), get_t (dix hk), toNat_nat, get_f (decide_eq_false (by omega)), get_f (decide_eq_false (by omega)), get_t (decide_eq_true ⟨rk.1, by omega⟩)]
        cases airy with
        | true =>
          obtain ⟨t, ht, es⟩ := h4.1 rfl
          have b0 : b = false := by
            cases b with
            | false => rfl
            | true => have := hb.1 rfl t (by omega); rw [es] at this; cases this
          subst b0
          rw [get_t rfl, get_bind eb, get_f rfl]
          refine ⟨_, rfl, nx true lost ⟨fun _ => ⟨t, by omega, es⟩, fun _ => rfl⟩ ?_, ms⟩
          rcases h5 with ⟨a, _⟩ | a
          · have := a t (by omega); rw [es] at this; cases this
          · exact .inr a
        | false =>
          have none' : ∀ t, t < k → Srf m (l.f t) = false := fun t ht => by
            cases e : Srf m (l.f t) with
            | false => rfl
            | true => have := h4.2 ⟨t, ht, e⟩; cases this
          have sf : (m.Places.f (l.f k).toNat).Surface = true ↔ ∃ t, t < k + 1 ∧ Srf m (l.f t) = true := by
            constructor
            · exact fun e => ⟨k, by omega, e⟩
            · rintro ⟨t, ht, e⟩
              by_cases c : t = k
              · subst c; exact e
              · have := none' t (by omega); rw [e] at this; cases this
          rw [get_f rfl, get_t (decide_eq_true ⟨rk.1, rk.2⟩), get_bind eb]
          cases b with
          | true =>
            rw [get_t rfl]
            refine ⟨_, rfl, nx _ _ sf (.inl ⟨hb.1 rfl, ?_⟩), ms⟩
            rcases h5 with ⟨_, a⟩ | ⟨⟨t, ht, es⟩, _⟩
            · rw [a]; exact wr_ok (by omega) (by omega)
            · have := hb.1 rfl t ht; rw [es] at this; cases this
          | false =>
            rw [get_f rfl]
            refine ⟨_, rfl, nx _ _ sf ?_, ms⟩
            rcases h5 with ⟨a, _⟩ | a
            · have := hb.2 a; cases this
            · exact .inr a
      · obtain rfl : k = l.n := by omega
        rw [get_f (dge (Nat.le_refl _))]
        refine ⟨_, rfl, _, rfl, h3, ?_, fun v => ⟨fun ⟨t, ht, e⟩ => ?_, fun hn => h7 v fun t ht e => hn ⟨t, ht, by have := rng t ht; omega⟩⟩, h8⟩
        · rcases h5 with ⟨a, b⟩ | ⟨⟨t, ht, es⟩, b⟩
          · refine .inr ⟨?_, b⟩
            cases e : airy with
            | false => rfl
            | true => obtain ⟨t, ht, es⟩ := h4.1 e; have := a t ht; rw [es] at this; cases this
          · exact .inl ⟨h4.2 ⟨t, ht, es⟩, b⟩
        · have := h6 t ht
          rw [e] at this
          exact this)
    (o, false, 0, 0) ⟨0, rfl, Nat.zero_le _, on, ⟨fun h => Bool.noConfusion h, fun ⟨t, ht, _⟩ => by omega⟩, by
      by_cases c : ∀ t, t < l.n → Srf m (l.f t) = false
      · exact .inl ⟨c, rfl⟩
      · refine .inr ⟨?_, rfl⟩
        refine Classical.byContradiction fun n => c fun t ht => ?_
        cases e : Srf m (l.f t) with
        | false => rfl
        | true => exact absurd ⟨t, ht, e⟩ n, fun t ht => by omega, fun _ _ => rfl, (Int.add_zero _).symm⟩
  obtain ⟨z, hz, y, rfl, r⟩ := key
  exact ⟨y, by rw [law01_PlanParts_l10_eq]; exact hz, r⟩
theorem l6_ex {m : SMine} (h12 : m.Places.n ≤ 12) {L : Sq (Sq Int)} (P : PtsOK m L) {c : Sq Int} (cn : c.n ≤ 1000) (hc : ∀ v, In c v ↔ Cut m v) :
    ∃ y, law01_PlanParts_l6 m.Places m.Roads L c ⟨m.Places.n, fun _ => 0⟩ 0 0 = some (.inl y) ∧ y.2.n = m.Places.n ∧ y.1 = cntN y.2 m.Places.n ∧ ∀ v : Nat, ∀ t, t < L.n → In (L.f t) v → y.2.f v = t + 1 := by
  have Ln := P.le
  have key := loop_ex (step := fun v : Sq Int × Int × Int => law01_PlanParts_l6_step m.Places m.Roads L c v.1 v.2.1 v.2.2)
    (fun v => ∃ j : Nat, v.2.2 = j ∧ j ≤ L.n ∧ v.1.n = m.Places.n ∧ v.2.1 = cntN v.1 m.Places.n ∧ 0 ≤ v.2.1 ∧ v.2.1 ≤ 12 * j ∧ ∀ w : Nat, (∀ t, t < j → In (L.f t) w → v.1.f w = t + 1) ∧ ((∀ t, t < j → ¬ In (L.f t) w) → v.1.f w = 0))
    (fun v => L.n - v.2.2.toNat)
    (fun z => ∃ y, z = .inl y ∧ y.2.n = m.Places.n ∧ y.1 = cntN y.2 m.Places.n ∧ ∀ v : Nat, ∀ t, t < L.n → In (L.f t) v → y.2.f v = t + 1) (fun v hv => by
      obtain ⟨o, total, x⟩ := v
      obtain ⟨j, h1, h2, h3, h4, h5, h6, h7⟩ := hv
      dsimp only at h1 h3 h4 h5 h6 h7 ⊢
      subst h1
      unfold law01_PlanParts_l6_step
      rcases Nat.lt_or_ge j L.n with hj | hj
      · obtain ⟨⟨airy, lost, o'⟩, e, g1, g2, g3, g4⟩ := l10_ex h12 P cn hc hj total h3 (fun v hv => (h7 v).2 fun t ht ht2 => by
          have := P.u t j (by omega) hj _ ht2 hv
          omega)
        dsimp only at g1 g2 g3 g4
        have l1 : 0 < (L.f j).n := by
          obtain ⟨r, k, hk, _⟩ := P.one hj
          omega
        have ln : (L.f j).n ≤ m.Places.n := (P.d j hj).le fun v hv => by
          obtain ⟨r, _, _, hr⟩ := P.c j hj
          have := (hr _).1 hv
          exact ⟨this.1, this.2.1⟩
        have wt : wr (total + (((L.f j).n : Nat) : Int)) = total + (L.f j).n := wr_ok (by omega) (by omega)
        have nx : ∃ j2 : Nat, wr ((j : Int) + 1) = j2 ∧ j2 ≤ L.n ∧ o'.n = m.Places.n ∧ wr (total + (((L.f j).n : Nat) : Int)) = cntN o' m.Places.n ∧ 0 ≤ wr (total + (((L.f j).n : Nat) : Int)) ∧ wr (total + (((L.f j).n : Nat) : Int)) ≤ 12 * j2 ∧ ∀ w : Nat, (∀ t, t < j2 → In (L.f t) w → o'.f w = t + 1) ∧ ((∀ t, t < j2 → ¬ In (L.f t) w) → o'.f w = 0) := by
          refine ⟨j + 1, wr_next (by omega), hj, g1, by rw [wt, g4, h4], by rw [wt]; omega, by rw [wt]; omega, fun w => ⟨fun t ht hin => ?_, fun hn => ?_⟩⟩
          · by_cases c : t = j
            · subst c; exact (g3 w).1 hin
            · rw [(g3 w).2 fun q => c (P.u t j (by omega) hj _ hin q)]
              exact (h7 w).1 t (by omega) hin
          · rw [(g3 w).2 (hn j (by omega))]
            exact (h7 w).2 fun t ht => hn t (by omega)
        have ms : L.n - (wr ((j : Int) + 1)).toNat < L.n - (j : Int).toNat := by rw [wr_next (by omega)]; omega
        rw [get_t (dlt hj), get_sum e]
        dsimp only [Sum.elim]
        rcases g2 with ⟨rfl, rfl⟩ | ⟨rfl, rfl⟩
        · rw [get_f (show ((0 : Int) != 0) = false from rfl), get_f (show (true == decide ((0 : Int) > 0)) = false from rfl), get_t (dix hj), toNat_nat]
          exact ⟨_, rfl, nx, ms⟩
        · rw [get_t (by simp; omega), get_t (dix hj), toNat_nat, get_f (by simp), get_f (by rw [decide_eq_true (by omega)]; rfl), get_t (dix hj)]
          exact ⟨_, rfl, nx, ms⟩
      · obtain rfl : j = L.n := by omega
        rw [get_f (dge (Nat.le_refl _))]
        exact ⟨_, rfl, _, rfl, h3, h4, fun v t ht hin => (h7 v).1 t ht hin⟩)
    (⟨m.Places.n, fun _ => 0⟩, 0, 0) ⟨0, rfl, Nat.zero_le _, rfl, cntN_zero.symm, Int.le_refl _, Int.le_refl _, fun w => ⟨fun t ht => by omega, fun _ => rfl⟩⟩
  obtain ⟨z, hz, y, rfl, r⟩ := key
  exact ⟨y, by rw [law01_PlanParts_l6_eq]; exact hz, r⟩
theorem planParts_true (codes : Sq Int) (hb : ∀ k, 0 ≤ codes.f k ∧ codes.f k ≤ 255) : (law01_PlanParts_t codes).get = some true := by
  obtain ⟨cd, e0, hcd⟩ := New_ex codes hb
  obtain ⟨m, a, e1, hm⟩ := Codes_Mine_ex hcd
  have n0 := hm.n0
  have n1 := hm.n1
  have ok := hm.ok
  have nr := ok.nr
  obtain ⟨L, e2, P, all⟩ := Parts_ex ok (by omega)
  obtain ⟨c, e3, dc, hc⟩ := CutOff_ex ok (by omega)
  have cn : c.n ≤ m.Places.n := dc.le fun v hv => by have := (hc v).1 hv; exact ⟨this.1, this.2.1⟩
  obtain ⟨⟨total, o⟩, e4, g1, g2, g3⟩ := l6_ex (by omega) P (by omega) hc
  dsimp only at g1 g2 g3
  have of : ∀ v : Nat, v < m.Places.n → ∃ t, t < L.n ∧ In (L.f t) v ∧ o.f v = t + 1 := fun v hv => by
    obtain ⟨t, ht, hin⟩ := all v hv
    exact ⟨t, ht, hin, g3 v t ht hin⟩
  have nz : ∀ v : Nat, v < m.Places.n → o.f v ≠ 0 := fun v hv => by
    obtain ⟨t, _, _, e⟩ := of v hv
    omega
  have tot : total = o.n := by rw [g2, cntN_all nz, g1]
  have k1 : law01_PlanParts_l25 m.Places m.Roads o 0 = some (.inl ()) := by
    rw [law01_PlanParts_l25_eq]
    refine (loop_first (step := fun v => law01_PlanParts_l25_step m.Places m.Roads o v) (n := o.n) (fun _ => none) (fun i hi => ?_) ?_ o.n 0 (Nat.zero_add _)).trans ?_
    · unfold law01_PlanParts_l25_step
      have := nz i (by omega)
      rw [get_t (dlt hi), get_t (dix hi), toNat_nat, get_f (by simp; omega), wr_next (by omega)]; rfl
    · unfold law01_PlanParts_l25_step
      rw [get_f (dge (Nat.le_refl _))]; rfl
    · rw [firstN_all fun _ _ _ => rfl]
  have k2 : law01_PlanParts_l30 m.Places m.Roads o 0 = some (.inl ()) := by
    rw [law01_PlanParts_l30_eq]
    refine (loop_first (step := fun v => law01_PlanParts_l30_step m.Places m.Roads o v) (n := m.Roads.n) (fun _ => none) (fun i hi => ?_) ?_ m.Roads.n 0 (Nat.zero_add _)).trans ?_
    · unfold law01_PlanParts_l30_step
      have re := road_ends ok hi
      rw [get_t (dlt hi), get_t (dix hi), toNat_nat]
      cases ec : (m.Roads.f i).Closed with
      | true => rw [get_f (b := !true) rfl, wr_next (by omega)]; rfl
      | false =>
        obtain ⟨t, ht, hin, et⟩ := of (m.Roads.f i).From.toNat (by omega)
        obtain ⟨s, hs, hin2, es⟩ := of (m.Roads.f i).To.toNat (by omega)
        rw [show (((m.Roads.f i).From.toNat : Nat) : Int) = (m.Roads.f i).From by omega] at hin
        rw [show (((m.Roads.f i).To.toNat : Nat) : Int) = (m.Roads.f i).To by omega] at hin2
        have ed : Edg m.Roads (m.Roads.f i).From (m.Roads.f i).To := ⟨i, hi, ec, .inl ⟨rfl, rfl⟩⟩
        have := P.u t s ht hs _ ((P.conn ht hin).2 ⟨re.2.2.1, re.2.2.2.1, (Conn.refl _ _).edg ed⟩) hin2
        subst this
        rw [get_t (b := !false) rfl, get_t (decide_eq_true ⟨re.1, by omega⟩), get_t (decide_eq_true ⟨re.2.2.1, by omega⟩), get_f (by rw [et, es]; simp), wr_next (by omega)]; rfl
    · unfold law01_PlanParts_l30_step
      rw [get_f (dge (Nat.le_refl _))]; rfl
    · rw [firstN_all fun _ _ _ => rfl]
  unfold law01_PlanParts_t
  rw [get_bind e0, get_bind e1]
  dsimp only
  rw [get_bind e2, get_bind e3, get_t (decide_eq_true ⟨by omega, by omega, by omega, by omega⟩), toNat_nat, get_sum e4]
  dsimp only [Sum.elim]
  rw [get_f (by rw [tot]; simp), get_sum k1]
  dsimp only [Sum.elim]
  rw [get_sum k2]
  dsimp only [Sum.elim]
  rw [get_bind awake_true]; rfl
end Go.Proofs.Ythkdmemkjojmoaa.Ab
