/- Stage 1: the document's side: what is connected. -/
import Derived.Test.YtkgcicbipcifdaaL1q
namespace Go.Proofs.Ytkgcicbipcifdaa.Ab
open Go

theorem sumN_nonneg {g : Nat → Int} : ∀ {n : Nat}, (∀ i, i < n → 0 ≤ g i) → 0 ≤ sumN g n := by
  intro n
  induction n with
  | zero => intro _; exact Int.le_refl _
  | succ n ih =>
    intro h
    have h1 := ih fun i hi => h i (by omega)
    have h2 := h n (by omega)
    show 0 ≤ sumN g n + g n
    omega
theorem sumN_upd {g g' : Nat → Int} {d : Int} : ∀ {n p : Nat}, p < n → (∀ i, i ≠ p → g' i = g i) → g' p = g p + d → sumN g' n = sumN g n + d := by
  intro n
  induction n with
  | zero => intro p h; omega
  | succ n ih =>
    intro p hp h1 h2
    show sumN g' n + g' n = sumN g n + g n + d
    by_cases c : p = n
    · subst c
      rw [sumN_congr (g := g') (g' := g) (n := p) fun i hi => h1 i (by omega), h2]; omega
    · rw [ih (by omega) h1 h2, h1 n (by omega)]; omega
/-- How many places are not yet met. -/
def cntF (s : Sq Bool) (n : Nat) : Int := sumN (fun v => if s.f v = true then 0 else 1) n
theorem cntF_nn (s : Sq Bool) (n : Nat) : 0 ≤ cntF s n := sumN_nonneg fun i _ => by split <;> omega
theorem cntF_set {s s' : Sq Bool} {n p : Nat} (hp : p < n) (h : s.f p = false) (hs : ∀ k, s'.f k = if k = p then true else s.f k) : cntF s' n = cntF s n + (-1) :=
  sumN_upd hp (fun i hi => by rw [hs, if_neg hi]) (by rw [hs, if_pos rfl, h]; rfl)
/-- What is met, grows within G. -/
structure Gr (m : SMine) (G : Int → Prop) (s0 s : Sq Bool) : Prop where
  n : s.n = m.Places.n
  u : ∀ v, s0.f v = true → s.f v = true
  g : ∀ v : Nat, v < m.Places.n → s.f v = true → G v
theorem From_l6_ex {m : SMine} (ok : MineOK m) {G : Int → Prop} (hG : Cl m.Roads G) {s0 : Sq Bool} (h0 : Gr m G s0 s0) :
    ∃ y, ref01_From_l6 m.Places m.Roads s0 false 0 = some (.inl y) ∧ Gr m G s0 y.2 ∧ ((y.1 = true ∧ cntF y.2 m.Places.n < cntF s0 m.Places.n) ∨ (y.1 = false ∧ cntF y.2 m.Places.n = cntF s0 m.Places.n ∧ ∀ j, j < m.Roads.n → (m.Roads.f j).Closed = false → y.2.f (m.Roads.f j).From.toNat = y.2.f (m.Roads.f j).To.toNat)) := by
  have nr := ok.nr
  have key := loop_ex (step := fun v : Sq Bool × Bool × Int => ref01_From_l6_step m.Places m.Roads v.1 v.2.1 v.2.2)
    (fun v => ∃ k : Nat, v.2.2 = k ∧ k ≤ m.Roads.n ∧ Gr m G s0 v.1 ∧ ((v.2.1 = true ∧ cntF v.1 m.Places.n < cntF s0 m.Places.n) ∨ (v.2.1 = false ∧ cntF v.1 m.Places.n = cntF s0 m.Places.n ∧ ∀ j, j < k → (m.Roads.f j).Closed = false → v.1.f (m.Roads.f j).From.toNat = v.1.f (m.Roads.f j).To.toNat)))
    (fun v => m.Roads.n - v.2.2.toNat)
    (fun z => ∃ y, z = .inl y ∧ Gr m G s0 y.2 ∧ ((y.1 = true ∧ cntF y.2 m.Places.n < cntF s0 m.Places.n) ∨ (y.1 = false ∧ cntF y.2 m.Places.n = cntF s0 m.Places.n ∧ ∀ j, j < m.Roads.n → (m.Roads.f j).Closed = false → y.2.f (m.Roads.f j).From.toNat = y.2.f (m.Roads.f j).To.toNat))) (fun v hv => by
      obtain ⟨s, ch, x⟩ := v
      obtain ⟨k, h1, hk, hs, hc⟩ := hv
      dsimp only at h1 hs hc ⊢
      subst h1
      have sn := hs.n
      unfold ref01_From_l6_step
      rcases Nat.lt_or_ge k m.Roads.n with hi | hi
      · have re := road_ends ok hi
        have ms : m.Roads.n - (wr ((k : Int) + 1)).toNat < m.Roads.n - (k : Int).toNat := by rw [wr_next (by omega)]; omega
        have stay : (¬ ((m.Roads.f k).Closed = false) ∨ s.f (m.Roads.f k).From.toNat = s.f (m.Roads.f k).To.toNat) → ∃ k2 : Nat, wr ((k : Int) + 1) = k2 ∧ k2 ≤ m.Roads.n ∧ Gr m G s0 s ∧ ((ch = true ∧ cntF s m.Places.n < cntF s0 m.Places.n) ∨ (ch = false ∧ cntF s m.Places.n = cntF s0 m.Places.n ∧ ∀ j, j < k2 → (m.Roads.f j).Closed = false → s.f (m.Roads.f j).From.toNat = s.f (m.Roads.f j).To.toNat)) := fun hq => by
          refine ⟨k + 1, wr_next (by omega), hi, hs, ?_⟩
          rcases hc with c | ⟨c1, c2, c3⟩
          · exact .inl c
          · refine .inr ⟨c1, c2, fun j hj hcl => ?_⟩
            by_cases c : j = k
            · subst c
              rcases hq with q | q
              · exact absurd hcl q
              · exact q
            · exact c3 j (by omega) hcl
        rw [get_t (dlt hi), get_t (dix hi), toNat_nat]
        cases ec : (m.Roads.f k).Closed with
        | true =>
          rw [get_f (b := !true) rfl]
          exact ⟨_, rfl, stay (.inl (by simp [ec])), ms⟩
        | false =>
          have g1 : decide ((0 : Int) ≤ (m.Roads.f k).From ∧ (m.Roads.f k).From < ((s.n : Nat) : Int)) = true := decide_eq_true ⟨by omega, by omega⟩
          have g2 : decide ((0 : Int) ≤ (m.Roads.f k).To ∧ (m.Roads.f k).To < ((s.n : Nat) : Int)) = true := decide_eq_true ⟨by omega, by omega⟩
          rw [get_t (b := !false) rfl, get_t g1, get_t g2]
          by_cases c : s.f (m.Roads.f k).From.toNat = s.f (m.Roads.f k).To.toNat
          · rw [get_f (by rw [c]; cases s.f (m.Roads.f k).To.toNat <;> rfl)]
            exact ⟨_, rfl, stay (.inr c), ms⟩
          · rw [get_t (by revert c; cases s.f (m.Roads.f k).From.toNat <;> cases s.f (m.Roads.f k).To.toNat <;> simp), get_t g1, get_t g2]
            have ed : Edg m.Roads (m.Roads.f k).From (m.Roads.f k).To := ⟨k, hi, ec, .inl ⟨rfl, rfl⟩⟩
            have cF : (((m.Roads.f k).From.toNat : Nat) : Int) = (m.Roads.f k).From := by omega
            have cT : (((m.Roads.f k).To.toNat : Nat) : Int) = (m.Roads.f k).To := by omega
            have both : G (m.Roads.f k).From ∧ G (m.Roads.f k).To := by
              cases e1 : s.f (m.Roads.f k).From.toNat with
              | true =>
                have := hs.g _ (by omega) e1
                rw [cF] at this
                exact ⟨this, hG _ _ ed this⟩
              | false =>
                cases e2 : s.f (m.Roads.f k).To.toNat with
                | true =>
                  have := hs.g _ (by omega) e2
                  rw [cT] at this
                  exact ⟨hG _ _ ed.symm this, this⟩
                | false => exact absurd (e1.trans e2.symm) c
            have eq : ∀ v, cond (Nat.beq v (m.Roads.f k).To.toNat) true (cond (Nat.beq v (m.Roads.f k).From.toNat) true (s.f v)) = if v = (m.Roads.f k).To.toNat ∨ v = (m.Roads.f k).From.toNat then true else s.f v := fun v => by
              by_cases q : v = (m.Roads.f k).To.toNat
              · rw [beq_t q, if_pos (.inl q)]; rfl
              · rw [beq_f q]
                by_cases q2 : v = (m.Roads.f k).From.toNat
                · rw [beq_t q2, if_pos (.inr q2)]; rfl
                · rw [beq_f q2, if_neg (by omega)]; rfl
            have gr : Gr m G s0 ⟨s.n, fun v => cond (Nat.beq v (m.Roads.f k).To.toNat) true (cond (Nat.beq v (m.Roads.f k).From.toNat) true (s.f v))⟩ := by
              refine ⟨sn, fun v hv => ?_, fun v hv ht => ?_⟩
              · show cond _ _ _ = true
                rw [eq]
                split
                · rfl
                · exact hs.u v hv
              · have ht : cond _ _ _ = true := ht
                rw [eq] at ht
                split at ht
                · rename_i q
                  rcases q with q | q
                  · rw [q, cT]; exact both.2
                  · rw [q, cF]; exact both.1
                · exact hs.g v hv ht
            have ct : cntF ⟨s.n, fun v => cond (Nat.beq v (m.Roads.f k).To.toNat) true (cond (Nat.beq v (m.Roads.f k).From.toNat) true (s.f v))⟩ m.Places.n = cntF s m.Places.n + (-1) := by
              cases e1 : s.f (m.Roads.f k).From.toNat with
              | true =>
                have e2 : s.f (m.Roads.f k).To.toNat = false := by
                  cases e2 : s.f (m.Roads.f k).To.toNat with
                  | false => rfl
                  | true => exact absurd (e1.trans e2.symm) c
                refine cntF_set (p := (m.Roads.f k).To.toNat) (by omega) e2 fun v => ?_
                show cond _ _ _ = _
                rw [eq]
                by_cases q : v = (m.Roads.f k).To.toNat
                · rw [if_pos (.inl q), if_pos q]
                · by_cases q2 : v = (m.Roads.f k).From.toNat
                  · rw [if_pos (.inr q2), if_neg q, q2, e1]
                  · rw [if_neg (by omega), if_neg q]
              | false =>
                have e2 : s.f (m.Roads.f k).To.toNat = true := by
                  cases e2 : s.f (m.Roads.f k).To.toNat with
                  | true => rfl
                  | false => exact absurd (e1.trans e2.symm) c
                refine cntF_set (p := (m.Roads.f k).From.toNat) (by omega) e1 fun v => ?_
                show cond _ _ _ = _
                rw [eq]
                by_cases q : v = (m.Roads.f k).From.toNat
                · rw [if_pos (.inr q), if_pos q]
                · by_cases q2 : v = (m.Roads.f k).To.toNat
                  · rw [if_pos (.inl q2), if_neg q, q2, e2]
                  · rw [if_neg (by omega), if_neg q]
            refine ⟨_, rfl, ⟨k + 1, wr_next (by omega), hi, gr, .inl ⟨rfl, ?_⟩⟩, ms⟩
            dsimp only
            rw [ct]
            rcases hc with c1 | c1 <;> omega
      · obtain rfl : k = m.Roads.n := by omega
        rw [get_f (dge (Nat.le_refl _))]
        exact ⟨_, rfl, _, rfl, hs, hc⟩)
    (s0, false, 0) ⟨0, rfl, Nat.zero_le _, h0, .inr ⟨rfl, rfl, fun j hj => absurd hj (Nat.not_lt_zero _)⟩⟩
  obtain ⟨z, hz, y, rfl, r⟩ := key
  exact ⟨y, by rw [ref01_From_l6_eq]; exact hz, r⟩
theorem From_ex {m : SMine} (ok : MineOK m) {s : Sq Bool} (sn : s.n = m.Places.n) : ∃ t, ref01_From m s = some t ∧ t.n = m.Places.n ∧ ∀ v : Nat, v < m.Places.n → (t.f v = true ↔ ∃ w : Nat, w < m.Places.n ∧ s.f w = true ∧ Conn m.Roads w v) := by
  have np := ok.np
  have hG : Cl m.Roads (fun x => ∃ w : Nat, w < m.Places.n ∧ s.f w = true ∧ Conn m.Roads w x) := fun u v e ⟨w, hw, hs, c⟩ => ⟨w, hw, hs, c.edg e⟩
  have key := loop_ex (step := fun v : Sq Bool × Bool => ref01_From_l3_step m.Places m.Roads v.1 v.2)
    (fun v => Gr m (fun x => ∃ w : Nat, w < m.Places.n ∧ s.f w = true ∧ Conn m.Roads w x) s v.1 ∧ (v.2 = false → ∀ j, j < m.Roads.n → (m.Roads.f j).Closed = false → v.1.f (m.Roads.f j).From.toNat = v.1.f (m.Roads.f j).To.toNat))
    (fun v => (2 * cntF v.1 m.Places.n + if v.2 = true then 1 else 0).toNat)
    (fun z => ∃ y, z = .inl y ∧ Gr m (fun x => ∃ w : Nat, w < m.Places.n ∧ s.f w = true ∧ Conn m.Roads w x) s y ∧ ∀ j, j < m.Roads.n → (m.Roads.f j).Closed = false → y.f (m.Roads.f j).From.toNat = y.f (m.Roads.f j).To.toNat) (fun v hv => by
      obtain ⟨t, ag⟩ := v
      obtain ⟨h1, h2⟩ := hv
      dsimp only at h1 h2 ⊢
      unfold ref01_From_l3_step
      cases ag with
      | false => exact ⟨_, rfl, _, rfl, h1, h2 rfl⟩
      | true =>
        obtain ⟨y, e, g, hc⟩ := From_l6_ex ok hG (s0 := t) ⟨h1.n, fun _ h => h, h1.g⟩
        rw [get_t rfl, get_sum e]
        have nn := cntF_nn y.2 m.Places.n
        refine ⟨_, rfl, ⟨⟨g.n, fun v hv => g.u v (h1.u v hv), g.g⟩, fun q => ?_⟩, ?_⟩
        · rcases hc with ⟨c, _⟩ | ⟨_, _, c⟩
          · dsimp only at q; rw [c] at q; cases q
          · exact c
        · dsimp only
          rw [if_pos (rfl : true = true)]
          rcases hc with ⟨c, d⟩ | ⟨c, d, _⟩
          · rw [c, if_pos rfl]; omega
          · rw [c, if_neg (by simp)]; omega)
    (s, true) ⟨⟨sn, fun _ h => h, fun v hv h => ⟨v, hv, h, .refl _ _⟩⟩, fun h => by cases h⟩
  obtain ⟨z, hz, t, rfl, g, cl⟩ := key
  refine ⟨t, ?_, g.n, fun v hv => ⟨g.g v hv, fun ⟨w, hw, hs, c⟩ => ?_⟩⟩
  · rw [ref01_From_eq]; unfold ref01_From_t
    rw [get_t (decide_eq_true ⟨by omega, by omega⟩), get_sum (by rw [ref01_From_l3_eq]; exact hz)]; rfl
  · have := c (fun x => t.f x.toNat = true) (fun a b e ha => by
      obtain ⟨j, hj, ho, q⟩ := e
      have := cl j hj ho
      rcases q with ⟨rfl, rfl⟩ | ⟨rfl, rfl⟩
      · rw [← this]; exact ha
      · rw [this]; exact ha) (by rw [toNat_nat]; exact g.u w hs)
    rw [toNat_nat] at this
    exact this
theorem Airy_ex {m : SMine} (ok : MineOK m) : ∃ t, ref01_Airy m = some t ∧ t.n = m.Places.n ∧ ∀ v : Nat, v < m.Places.n → (t.f v = true ↔ ∃ w : Int, 0 ≤ w ∧ w < m.Places.n ∧ Conn m.Roads v w ∧ (m.Places.f w.toNat).Surface = true) := by
  have np := ok.np
  have key := loop_ex (step := fun v : Sq Bool × Int => ref01_Airy_l3_step m.Places m.Roads v.1 v.2)
    (fun v => ∃ k : Nat, v.2 = k ∧ k ≤ m.Places.n ∧ v.1.n = m.Places.n ∧ ∀ i, i < k → v.1.f i = (m.Places.f i).Surface) (fun v => m.Places.n - v.2.toNat)
    (fun z => ∃ y, z = .inl y ∧ y.n = m.Places.n ∧ ∀ i, i < m.Places.n → y.f i = (m.Places.f i).Surface) (fun v hv => by
      obtain ⟨t, x⟩ := v
      obtain ⟨k, h1, hk, tn, h⟩ := hv
      dsimp only at h1 tn h ⊢
      subst h1
      unfold ref01_Airy_l3_step
      rcases Nat.lt_or_ge k m.Places.n with hi | hi
      · rw [get_t (dlt hi), get_t (dix hi), get_t (dix (by omega)), toNat_nat, wr_next (by omega)]
        refine ⟨_, rfl, ⟨k + 1, rfl, hi, tn, fun i hj => ?_⟩, by dsimp only; omega⟩
        show cond _ _ _ = _
        by_cases c : i = k
        · rw [beq_t c, c]; rfl
        · rw [beq_f c]; exact h i (by omega)
      · obtain rfl : k = m.Places.n := by omega
        rw [get_f (dge (Nat.le_refl _))]
        exact ⟨_, rfl, _, rfl, tn, h⟩)
    (⟨m.Places.n, fun _ => false⟩, 0) ⟨0, rfl, Nat.zero_le _, rfl, fun i hi => absurd hi (Nat.not_lt_zero _)⟩
  obtain ⟨z, hz, s, rfl, sn, hs⟩ := key
  obtain ⟨t, e, tn, ht⟩ := From_ex ok sn
  refine ⟨t, ?_, tn, fun v hv => (ht v hv).trans ⟨fun ⟨w, hw, h1, c⟩ => ⟨w, by omega, by omega, c.symm, by rw [toNat_nat, ← hs w hw]; exact h1⟩, fun ⟨w, w0, w1, c, h1⟩ => ⟨w.toNat, by omega, by rw [hs _ (by omega)]; exact h1, by rw [show ((w.toNat : Nat) : Int) = w by omega]; exact c.symm⟩⟩⟩
  rw [ref01_Airy_eq]; unfold ref01_Airy_t
  rw [get_t (decide_eq_true ⟨by omega, by omega, by omega, by omega⟩), toNat_nat, get_sum (by rw [ref01_Airy_l3_eq]; exact hz)]
  dsimp only [Sum.elim]
  rw [get_bind e]; rfl
end Go.Proofs.Ytkgcicbipcifdaa.Ab
