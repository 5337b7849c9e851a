/- A part of the proof, what is needed of it. -/
import Derived.Test.YtimkpfnbkclclaaGreatPh19
import Derived.Test.YtimkpfnbkclclaaGreatPh20
import Derived.Test.YtimkpfnbkclclaaGreatPh24
import Derived.Test.YtimkpfnbkclclaaGreatPh25
namespace Go.Proofs.YtimkpfnbkclclaaGreat.Ab
open Go
theorem aoN {g g' : Nat → Int} {d : Int} : ∀ {n p : Nat}, p < n → (∀ i, i ≠ p → g' i = g i) → g' p = g p + d → sumN g' n = sumN g n + d := by
  intro n
  induction n with
  | zero => intro p h; omega
  | succ n ih =>
    intro p hp h1 h2
    show sumN g' n + g' n = sumN g n + g n + d
    by_cases c : p = n
    · subst c
      rw [ai0 (g := g') (g' := g) (n := p) fun i hi => h1 i (by omega), h2]; omega
    · rw [ih (by omega) h1 h2, h1 n (by omega)]; omega
def cntF (s : Sq Bool) (n : Nat) : Int := sumN (fun v => if s.f v = true then 0 else 1) n
theorem apd (s : Sq Bool) (n : Nat) : 0 ≤ cntF s n := alz fun i _ => by split <;> omega
theorem anb {s s' : Sq Bool} {n p : Nat} (hp : p < n) (h : s.f p = false) (hs : ∀ k, s'.f k = if k = p then true else s.f k) : cntF s' n = cntF s n + (-1) :=
  aoN hp (fun i hi => by rw [hs, if_neg hi]) (by rw [hs, if_pos rfl, h]; rfl)
structure Gr (m : qI) (G : Int → Prop) (s0 s : Sq Bool) : Prop where
  n : s.n = m.Places.n
  u : ∀ v, s0.f v = true → s.f v = true
  g : ∀ v : Nat, v < m.Places.n → s.f v = true → G v
theorem ano {m : qI} (ok : aja m) {G : Int → Prop} (hG : Cl m.Roads G) {s0 : Sq Bool} (h0 : Gr m G s0 s0) :
    ∃ y, WX m.Places m.Roads s0 false 0 = some (.inl y) ∧ Gr m G s0 y.2 ∧ ((y.1 = true ∧ cntF y.2 m.Places.n < cntF s0 m.Places.n) ∨ (y.1 = false ∧ cntF y.2 m.Places.n = cntF s0 m.Places.n ∧ ∀ j, j < m.Roads.n → (m.Roads.f j).Closed = false → y.2.f (m.Roads.f j).From.toNat = y.2.f (m.Roads.f j).To.toNat)) := by
  have nr := ok.nr
  have key := pY (step := fun v : Sq Bool × Bool × Int => KR m.Places m.Roads v.1 v.2.1 v.2.2)
    (fun v => ∃ k : Nat, v.2.2 = k ∧ k ≤ m.Roads.n ∧ Gr m G s0 v.1 ∧ ((v.2.1 = true ∧ cntF v.1 m.Places.n < cntF s0 m.Places.n) ∨ (v.2.1 = false ∧ cntF v.1 m.Places.n = cntF s0 m.Places.n ∧ ∀ j, j < k → (m.Roads.f j).Closed = false → v.1.f (m.Roads.f j).From.toNat = v.1.f (m.Roads.f j).To.toNat)))
    (fun v => m.Roads.n - v.2.2.toNat)
    (fun z => ∃ y, z = .inl y ∧ Gr m G s0 y.2 ∧ ((y.1 = true ∧ cntF y.2 m.Places.n < cntF s0 m.Places.n) ∨ (y.1 = false ∧ cntF y.2 m.Places.n = cntF s0 m.Places.n ∧ ∀ j, j < m.Roads.n → (m.Roads.f j).Closed = false → y.2.f (m.Roads.f j).From.toNat = y.2.f (m.Roads.f j).To.toNat))) (fun v hv => by
      obtain ⟨s, ch, x⟩ := v
      obtain ⟨k, h1, hk, hs, hc⟩ := hv
      dsimp only at h1 hs hc ⊢
      subst h1
      have sn := hs.n
      unfold KR
      rcases Nat.lt_or_ge k m.Roads.n with hi | hi
      · have re := ai2 ok hi
        have ms : m.Roads.n - (wr ((k : Int) + 1)).toNat < m.Roads.n - (k : Int).toNat := by rw [qc (by omega)]; omega
        have stay : (¬ ((m.Roads.f k).Closed = false) ∨ s.f (m.Roads.f k).From.toNat = s.f (m.Roads.f k).To.toNat) → ∃ k2 : Nat, wr ((k : Int) + 1) = k2 ∧ k2 ≤ m.Roads.n ∧ Gr m G s0 s ∧ ((ch = true ∧ cntF s m.Places.n < cntF s0 m.Places.n) ∨ (ch = false ∧ cntF s m.Places.n = cntF s0 m.Places.n ∧ ∀ j, j < k2 → (m.Roads.f j).Closed = false → s.f (m.Roads.f j).From.toNat = s.f (m.Roads.f j).To.toNat)) := fun hq => by
          refine ⟨k + 1, qc (by omega), hi, hs, ?_⟩
          rcases hc with c | ⟨c1, c2, c3⟩
          · exact .inl c
          · refine .inr ⟨c1, c2, fun j hj hcl => ?_⟩
            by_cases c : j = k
            · subst c
              rcases hq with q | q
              · exact absurd hcl q
              · exact q
            · exact c3 j (by omega) hcl
        rw [qo (dlt hi), qo (dix hi), pI]
        cases ec : (m.Roads.f k).Closed with
        | true =>
          rw [qm (b := !true) rfl]
          exact ⟨_, rfl, stay (.inl (by simp [ec])), ms⟩
        | false =>
          have g1 : decide ((0 : Int) ≤ (m.Roads.f k).From ∧ (m.Roads.f k).From < ((s.n : Nat) : Int)) = true := decide_eq_true ⟨by omega, by omega⟩
          have g2 : decide ((0 : Int) ≤ (m.Roads.f k).To ∧ (m.Roads.f k).To < ((s.n : Nat) : Int)) = true := decide_eq_true ⟨by omega, by omega⟩
          rw [qo (b := !false) rfl, qo g1, qo g2]
          by_cases c : s.f (m.Roads.f k).From.toNat = s.f (m.Roads.f k).To.toNat
          · rw [qm (by rw [c]; cases s.f (m.Roads.f k).To.toNat <;> rfl)]
            exact ⟨_, rfl, stay (.inr c), ms⟩
          · rw [qo (by revert c; cases s.f (m.Roads.f k).From.toNat <;> cases s.f (m.Roads.f k).To.toNat <;> simp), qo g1, qo g2]
            have ed : Edg m.Roads (m.Roads.f k).From (m.Roads.f k).To := ⟨k, hi, ec, .inl ⟨rfl, rfl⟩⟩
            have cF : (((m.Roads.f k).From.toNat : Nat) : Int) = (m.Roads.f k).From := by omega
            have cT : (((m.Roads.f k).To.toNat : Nat) : Int) = (m.Roads.f k).To := by omega
            have both : G (m.Roads.f k).From ∧ G (m.Roads.f k).To := by
              cases e1 : s.f (m.Roads.f k).From.toNat with
              | true =>
                have := hs.g _ (by omega) e1
                rw [cF] at this
                exact ⟨this, hG _ _ ed this⟩
              | false =>
                cases e2 : s.f (m.Roads.f k).To.toNat with
                | true =>
                  have := hs.g _ (by omega) e2
                  rw [cT] at this
                  exact ⟨hG _ _ ed.symm this, this⟩
                | false => exact absurd (e1.trans e2.symm) c
            have eq : ∀ v, cond (Nat.beq v (m.Roads.f k).To.toNat) true (cond (Nat.beq v (m.Roads.f k).From.toNat) true (s.f v)) = if v = (m.Roads.f k).To.toNat ∨ v = (m.Roads.f k).From.toNat then true else s.f v := fun v => by
              by_cases q : v = (m.Roads.f k).To.toNat
              · rw [ajw q, if_pos (.inl q)]; rfl
              · rw [ajM q]
                by_cases q2 : v = (m.Roads.f k).From.toNat
                · rw [ajw q2, if_pos (.inr q2)]; rfl
                · rw [ajM q2, if_neg (by omega)]; rfl
            have gr : Gr m G s0 ⟨s.n, fun v => cond (Nat.beq v (m.Roads.f k).To.toNat) true (cond (Nat.beq v (m.Roads.f k).From.toNat) true (s.f v))⟩ := by
              refine ⟨sn, fun v hv => ?_, fun v hv ht => ?_⟩
              · show cond _ _ _ = true
                rw [eq]
                split
                · rfl
                · exact hs.u v hv
              · have ht : cond _ _ _ = true := ht
                rw [eq] at ht
                split at ht
                · rename_i q
                  rcases q with q | q
                  · rw [q, cT]; exact both.2
                  · rw [q, cF]; exact both.1
                · exact hs.g v hv ht
            have ct : cntF ⟨s.n, fun v => cond (Nat.beq v (m.Roads.f k).To.toNat) true (cond (Nat.beq v (m.Roads.f k).From.toNat) true (s.f v))⟩ m.Places.n = cntF s m.Places.n + (-1) := by
              cases e1 : s.f (m.Roads.f k).From.toNat with
              | true =>
                have e2 : s.f (m.Roads.f k).To.toNat = false := by
                  cases e2 : s.f (m.Roads.f k).To.toNat with
                  | false => rfl
                  | true => exact absurd (e1.trans e2.symm) c
                refine anb (p := (m.Roads.f k).To.toNat) (by omega) e2 fun v => ?_
                show cond _ _ _ = _
                rw [eq]
                by_cases q : v = (m.Roads.f k).To.toNat
                · rw [if_pos (.inl q), if_pos q]
                · by_cases q2 : v = (m.Roads.f k).From.toNat
                  · rw [if_pos (.inr q2), if_neg q, q2, e1]
                  · rw [if_neg (by omega), if_neg q]
              | false =>
                have e2 : s.f (m.Roads.f k).To.toNat = true := by
                  cases e2 : s.f (m.Roads.f k).To.toNat with
                  | true => rfl
                  | false => exact absurd (e1.trans e2.symm) c
                refine anb (p := (m.Roads.f k).From.toNat) (by omega) e1 fun v => ?_
                show cond _ _ _ = _
                rw [eq]
                by_cases q : v = (m.Roads.f k).From.toNat
                · rw [if_pos (.inr q), if_pos q]
                · by_cases q2 : v = (m.Roads.f k).To.toNat
                  · rw [if_pos (.inl q2), if_neg q, q2, e2]
                  · rw [if_neg (by omega), if_neg q]
            refine ⟨_, rfl, ⟨k + 1, qc (by omega), hi, gr, .inl ⟨rfl, ?_⟩⟩, ms⟩
            dsimp only
            rw [ct]
            rcases hc with c1 | c1 <;> omega
      · obtain rfl : k = m.Roads.n := by omega
        rw [qm (dge (Nat.le_refl _))]
        exact ⟨_, rfl, _, rfl, hs, hc⟩)
    (s0, false, 0) ⟨0, rfl, Nat.zero_le _, h0, .inr ⟨rfl, rfl, fun j hj => absurd hj (Nat.not_lt_zero _)⟩⟩
  obtain ⟨z, hz, y, rfl, r⟩ := key
  exact ⟨y, by rw [agv]; exact hz, r⟩
theorem ao3 {m : qI} (ok : aja m) {s : Sq Bool} (sn : s.n = m.Places.n) : ∃ t, acK m s = some t ∧ t.n = m.Places.n ∧ ∀ v : Nat, v < m.Places.n → (t.f v = true ↔ ∃ w : Nat, w < m.Places.n ∧ s.f w = true ∧ Conn m.Roads w v) := by
  have np := ok.np
  have hG : Cl m.Roads (fun x => ∃ w : Nat, w < m.Places.n ∧ s.f w = true ∧ Conn m.Roads w x) := fun u v e ⟨w, hw, hs, c⟩ => ⟨w, hw, hs, c.edg e⟩
  have key := pY (step := fun v : Sq Bool × Bool => KQ m.Places m.Roads v.1 v.2)
    (fun v => Gr m (fun x => ∃ w : Nat, w < m.Places.n ∧ s.f w = true ∧ Conn m.Roads w x) s v.1 ∧ (v.2 = false → ∀ j, j < m.Roads.n → (m.Roads.f j).Closed = false → v.1.f (m.Roads.f j).From.toNat = v.1.f (m.Roads.f j).To.toNat))
    (fun v => (2 * cntF v.1 m.Places.n + if v.2 = true then 1 else 0).toNat)
    (fun z => ∃ y, z = .inl y ∧ Gr m (fun x => ∃ w : Nat, w < m.Places.n ∧ s.f w = true ∧ Conn m.Roads w x) s y ∧ ∀ j, j < m.Roads.n → (m.Roads.f j).Closed = false → y.f (m.Roads.f j).From.toNat = y.f (m.Roads.f j).To.toNat) (fun v hv => by
      obtain ⟨t, ag⟩ := v
      obtain ⟨h1, h2⟩ := hv
      dsimp only at h1 h2 ⊢
      unfold KQ
      cases ag with
      | false => exact ⟨_, rfl, _, rfl, h1, h2 rfl⟩
      | true =>
        obtain ⟨y, e, g, hc⟩ := ano ok hG (s0 := t) ⟨h1.n, fun _ h => h, h1.g⟩
        rw [qo rfl, pV e]
        have nn := apd y.2 m.Places.n
        refine ⟨_, rfl, ⟨⟨g.n, fun v hv => g.u v (h1.u v hv), g.g⟩, fun q => ?_⟩, ?_⟩
        · rcases hc with ⟨c, _⟩ | ⟨_, _, c⟩
          · dsimp only at q; rw [c] at q; cases q
          · exact c
        · dsimp only
          rw [if_pos (rfl : true = true)]
          rcases hc with ⟨c, d⟩ | ⟨c, d, _⟩
          · rw [c, if_pos rfl]; omega
          · rw [c, if_neg (by simp)]; omega)
    (s, true) ⟨⟨sn, fun _ h => h, fun v hv h => ⟨v, hv, h, .refl _ _⟩⟩, fun h => by cases h⟩
  obtain ⟨z, hz, t, rfl, g, cl⟩ := key
  refine ⟨t, ?_, g.n, fun v hv => ⟨g.g v hv, fun ⟨w, hw, hs, c⟩ => ?_⟩⟩
  · rw [ah7]; unfold Zg
    rw [qo (decide_eq_true ⟨by omega, by omega⟩), pV (by rw [agu]; exact hz)]; rfl
  · have := c (fun x => t.f x.toNat = true) (fun a b e ha => by
      obtain ⟨j, hj, ho, q⟩ := e
      have := cl j hj ho
      rcases q with ⟨rfl, rfl⟩ | ⟨rfl, rfl⟩
      · rw [← this]; exact ha
      · rw [this]; exact ha) (by rw [pI]; exact g.u w hs)
    rw [pI] at this
    exact this
theorem anQ {m : qI} (ok : aja m) : ∃ t, Yk m = some t ∧ t.n = m.Places.n ∧ ∀ v : Nat, v < m.Places.n → (t.f v = true ↔ Aw m v) := by
  have np := ok.np
  have key := pY (step := fun v : Sq Bool × Int => KP m.Places m.Roads v.1 v.2)
    (fun v => ∃ k : Nat, v.2 = k ∧ k ≤ m.Places.n ∧ v.1.n = m.Places.n ∧ ∀ i, i < k → v.1.f i = (m.Places.f i).Surface) (fun v => m.Places.n - v.2.toNat)
    (fun z => ∃ y, z = .inl y ∧ y.n = m.Places.n ∧ ∀ i, i < m.Places.n → y.f i = (m.Places.f i).Surface) (fun v hv => by
      obtain ⟨t, x⟩ := v
      obtain ⟨k, h1, hk, tn, h⟩ := hv
      dsimp only at h1 tn h ⊢
      subst h1
      unfold KP
      rcases Nat.lt_or_ge k m.Places.n with hi | hi
      · rw [qo (dlt hi), qo (dix hi), qo (dix (by omega)), pI, qc (by omega)]
        refine ⟨_, rfl, ⟨k + 1, rfl, hi, tn, fun i hj => ?_⟩, by dsimp only; omega⟩
        show cond _ _ _ = _
        by_cases c : i = k
        · rw [ajw c, c]; rfl
        · rw [ajM c]; exact h i (by omega)
      · obtain rfl : k = m.Places.n := by omega
        rw [qm (dge (Nat.le_refl _))]
        exact ⟨_, rfl, _, rfl, tn, h⟩)
    (⟨m.Places.n, fun _ => false⟩, 0) ⟨0, rfl, Nat.zero_le _, rfl, fun i hi => absurd hi (Nat.not_lt_zero _)⟩
  obtain ⟨z, hz, s, rfl, sn, hs⟩ := key
  obtain ⟨t, e, tn, ht⟩ := ao3 ok sn
  refine ⟨t, ?_, tn, fun v hv => (ht v hv).trans ⟨fun ⟨w, hw, h1, c⟩ => ⟨w, by omega, by omega, c.symm, by rw [pI, ← hs w hw]; exact h1⟩, fun ⟨w, w0, w1, c, h1⟩ => ⟨w.toNat, by omega, by rw [hs _ (by omega)]; exact h1, by rw [show ((w.toNat : Nat) : Int) = w by omega]; exact c.symm⟩⟩⟩
  rw [ah6]; unfold Ze
  rw [qo (decide_eq_true ⟨by omega, by omega, by omega, by omega⟩), pI, pV (by rw [agt]; exact hz)]
  dsimp only [Sum.elim]
  rw [get_bind e]; rfl
open Classical in
theorem alY {m : qI} (ok : aja m) : ∃ t, Nz m = some t ∧ t.n = m.Places.n ∧ ∀ v : Nat, v < m.Places.n → (t.f v = true ↔ (m.Places.f v).Surface = true ∨ ¬ Aw m v) := by
  have np := ok.np
  obtain ⟨s, e, sn, hs⟩ := anQ ok
  have key := pY (step := fun v : Sq Bool × Int => JX m.Places m.Roads v.1 v.2)
    (fun v => ∃ k : Nat, v.2 = k ∧ k ≤ m.Places.n ∧ v.1.n = m.Places.n ∧ (∀ i, i < k → (v.1.f i = true ↔ (m.Places.f i).Surface = true ∨ ¬ Aw m i)) ∧ ∀ i, k ≤ i → v.1.f i = s.f i) (fun v => m.Places.n - v.2.toNat)
    (fun z => ∃ y, z = .inl y ∧ y.n = m.Places.n ∧ ∀ i : Nat, i < m.Places.n → (y.f i = true ↔ (m.Places.f i).Surface = true ∨ ¬ Aw m i)) (fun v hv => by
      obtain ⟨t, x⟩ := v
      obtain ⟨k, h1, hk, tn, h, h'⟩ := hv
      dsimp only at h1 tn h h' ⊢
      subst h1
      unfold JX
      rcases Nat.lt_or_ge k m.Places.n with hi | hi
      · have a := hs k hi
        have ek := h' k (Nat.le_refl _)
        rw [qo (dlt (by omega)), qo (dix (by omega)), pI, qc (by omega), ek]
        have fin : ∀ b : Bool, (b = true ↔ (m.Places.f k).Surface = true ∨ ¬ Aw m k) → ∃ k2 : Nat, ((k + 1 : Nat) : Int) = k2 ∧ k2 ≤ m.Places.n ∧ t.n = m.Places.n ∧ (∀ i, i < k2 → (cond (Nat.beq i k) b (t.f i) = true ↔ (m.Places.f i).Surface = true ∨ ¬ Aw m i)) ∧ ∀ i, k2 ≤ i → cond (Nat.beq i k) b (t.f i) = s.f i := fun b hb => by
          refine ⟨k + 1, rfl, hi, tn, fun i hj => ?_, fun i hj => ?_⟩
          · by_cases c : i = k
            · rw [ajw c, c]; exact hb
            · rw [ajM c]; exact h i (by omega)
          · rw [ajM (by omega)]; exact h' i (by omega)
        cases q : s.f k with
        | true =>
          rw [q] at a
          have aw := a.1 rfl
          rw [qm (b := !true) rfl, qo (dix hi), qo (dix (by omega))]
          exact ⟨_, rfl, fin _ ⟨.inl, fun z => z.elim id fun n => absurd aw n⟩, by dsimp only; omega⟩
        | false =>
          rw [q] at a
          have naw : ¬ Aw m k := fun z => by have := a.2 z; cases this
          rw [qo (b := !false) rfl, qo (dix (by omega))]
          exact ⟨_, rfl, fin true ⟨fun _ => .inr naw, fun _ => rfl⟩, by dsimp only; omega⟩
      · obtain rfl : k = m.Places.n := by omega
        rw [qm (dge (by omega))]
        exact ⟨_, rfl, _, rfl, tn, h⟩)
    (s, 0) ⟨0, rfl, Nat.zero_le _, sn, fun i hi => absurd hi (Nat.not_lt_zero _), fun _ _ => rfl⟩
  obtain ⟨z, hz, y, rfl, r⟩ := key
  refine ⟨y, ?_, r⟩
  rw [ahI]; unfold Xu
  rw [get_bind e, pV (by rw [afU]; exact hz)]; rfl
end Go.Proofs.YtimkpfnbkclclaaGreat.Ab
namespace Go.Proofs.YtimkpfnbkclclaaGreat.Ab
noncomputable section
open Go
theorem amS {A B : Type} {o : Option A} {x : A} {f : A → DT B} {Q : B → Prop} (h : o = some x) (q : ∃ y, (f x).get = some y ∧ Q y) : ∃ y, (DT.bind o f).get = some y ∧ Q y := by
  rw [get_bind h]; exact q
def Rng (l : Sq Int) : Prop := ∀ k, k < l.n → -70368744177664 ≤ l.f k ∧ l.f k ≤ 70368744177664
open Classical in
def gQ (Q : Nat → Prop) (i : Nat) : Option Unit := if Q i then none else some ()
theorem amq {Q : Nat → Prop} {n : Nat} (h : ∀ i, i < n → Q i) : bn (gQ Q) n 0 = none := by
  cases e : bn (gQ Q) n 0 with
  | none => rfl
  | some u =>
    obtain ⟨j, _, hj, g, _⟩ := om e
    unfold gQ at g
    rw [if_pos (h j (by omega))] at g
    cases g
theorem amr {Q : Nat → Prop} {n : Nat} (h : ¬ ∀ i, i < n → Q i) : bn (gQ Q) n 0 = some () := by
  cases e : bn (gQ Q) n 0 with
  | some u => rfl
  | none =>
    refine absurd (fun i hi => ?_) h
    have := oh e i (Nat.zero_le _) (by omega)
    unfold gQ at this
    split at this
    · assumption
    · cases this
theorem alk (l : Sq Int) (h : l.n ≤ 64) : ∃ b, K3 l = some b ∧ (b = true ↔ Rng l) := by
  have e : Q6 l 0 = some (sumO (bn (gQ fun i => -70368744177664 ≤ l.f i ∧ l.f i ≤ 70368744177664) l.n 0)) := by
    rw [afd, ← aiX]
    refine oM (step := fun v => Ir l v) (gQ fun i => -70368744177664 ≤ l.f i ∧ l.f i ≤ 70368744177664) (fun i hi => ?_) ?_ l.n 0 (Nat.zero_add _)
    · unfold Ir gQ
      rw [qo (dlt hi), qo (dix hi), pI, qc (by omega)]
      by_cases c : l.f i < -70368744177664
      · rw [qo (decide_eq_true c), if_neg (by omega)]; rfl
      · rw [qm (decide_eq_false c), qo (dix hi)]
        by_cases c2 : l.f i > 70368744177664
        · rw [qo (decide_eq_true c2), if_neg (by omega)]; rfl
        · rw [qm (decide_eq_false c2), if_pos (by omega)]; rfl
    · unfold Ir
      rw [qm (dge (Nat.le_refl _))]; rfl
  rw [ag5]; unfold Ut
  by_cases c : Rng l
  · rw [amq c] at e
    rw [pV e]
    exact ⟨true, rfl, fun _ => c, fun _ => rfl⟩
  · rw [amr c] at e
    rw [pV e]
    exact ⟨false, rfl, fun h => by (cases h), fun h => absurd h c⟩
def akI (a : SAir) (s : qz) (L H : Sq Int) (i : Nat) : Prop :=
  ((a.Mine.Places.f i).Surface = true ∨ ¬ Aw a.Mine i → L.f i = 0 ∧ H.f i = 0) ∧ (¬ ((a.Mine.Places.f i).Surface = true ∨ ¬ Aw a.Mine i) → 0 ≤ NL a s H i (H.f i) ∧ NH a s L i (L.f i) ≤ 0)
open Classical in
def aje (a : SAir) (s : qz) (b : qL) : Int :=
  if airE a ≠ 0 then airE a else if aiR a s = false then 21 else if b.Low.n ≠ a.Mine.Places.n then 11 else if b.High.n ≠ a.Mine.Places.n then 11
  else if ¬ Rng b.Low then 1 else if ¬ Rng b.High then 1 else if ∀ i, i < a.Mine.Places.n → akI a s b.Low b.High i then 0 else 12
theorem al0 {a : SAir} {s : qz} {b : qL} (h : aje a s b = 0) : aiR a s = true ∧ alV a s b.Low b.High := by
  unfold aje at h
  split at h
  · rename_i c; exact absurd h c
  · split at h
    · cases h
    · rename_i h2
      have h2 : aiR a s = true := by simpa using h2
      split at h
      · cases h
      · rename_i h3
        split at h
        · cases h
        · rename_i h4
          split at h
          · cases h
          · rename_i h5
            split at h
            · cases h
            · rename_i h6
              split at h
              · rename_i h7
                refine ⟨h2, aiU h2, Classical.not_not.1 h3, Classical.not_not.1 h4, Classical.not_not.1 h5, Classical.not_not.1 h6, fun i hi q => (h7 i hi).1 q, fun i hi ns aw => (h7 i hi).2 fun q => q.elim (fun e => by rw [ns] at e; cases e) fun n => n aw⟩
              · cases h
theorem alV.at {a : SAir} {s : qz} {L H : Sq Int} (h : alV a s L H) {i : Nat} (hi : i < a.Mine.Places.n) : akI a s L H i := by
  refine ⟨h.z i hi, fun n => h.u i hi ?_ ?_⟩
  · cases e : (a.Mine.Places.f i).Surface with
    | false => rfl
    | true => exact absurd (.inl e) n
  · exact Classical.byContradiction fun q => n (.inr q)
theorem ana {a : SAir} {s : qz} {b : qL} (rt : aiR a s = true) (ln : b.Low.n = a.Mine.Places.n) (hn : b.High.n = a.Mine.Places.n) (lr : Rng b.Low) (hr : Rng b.High) (h : ∀ i, i < a.Mine.Places.n → akI a s b.Low b.High i) : aje a s b = 0 := by
  unfold aje
  rw [if_neg (not_not_intro (aj7 rt)), if_neg (by rw [rt]; simp), if_neg (not_not_intro ln), if_neg (not_not_intro hn), if_neg (not_not_intro lr), if_neg (not_not_intro hr), if_pos h]
open Classical in
def ajN (a : SAir) (s : qz) (b : qL) (j : Nat) : qB :=
  if (a.Mine.Roads.f j).Closed = true then ⟨0, 0⟩ else if Aw a.Mine (a.Mine.Roads.f j).From then
    ⟨flL a s j (b.Low.f (a.Mine.Roads.f j).From.toNat - b.High.f (a.Mine.Roads.f j).To.toNat), flH a s j (b.High.f (a.Mine.Roads.f j).From.toNat - b.Low.f (a.Mine.Roads.f j).To.toNat)⟩ else ⟨-1125899906842624, 1125899906842624⟩
end
end Go.Proofs.YtimkpfnbkclclaaGreat.Ab
