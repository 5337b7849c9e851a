/- Stage 11: the program's Check. -/
import Derived.Test.YtmfiagdelnddkaaGreatXJ
import Derived.Test.YtmfiagdelnddkaaGreatXFp
namespace Go.Proofs.YtmfiagdelnddkaaGreat.Ab
open Go
theorem ad4 (l : Sq Int) (v : Int) (hn : l.n ≤ 1000) : ∃ b, slices_Contains l v = some b ∧ (b = true ↔ In l v) := by
  have e1 : ∃ z, slices_Index l v = some z ∧ ((z = -1 ∧ ¬ In l v) ∨ (0 ≤ z ∧ In l v)) := by
    have key := bH (step := fun x : Int => gq l v x)
      (fun x => ∃ j : Nat, x = j ∧ j ≤ l.n ∧ ∀ k, k < j → l.f k ≠ v) (fun x => l.n - x.toNat)
      (fun z => (z = .inl () ∧ ¬ In l v) ∨ ∃ y : Int, z = .inr y ∧ 0 ≤ y ∧ In l v) (fun x hx => by
        obtain ⟨j, rfl, hj, h⟩ := hx
        unfold gq
        by_cases c : j < l.n
        · rw [aA (dlt c), aA (dix c), aF, aQ (by omega)]
          by_cases e : l.f j = v
          · rw [aA (by rw [e]; simp)]
            exact ⟨_, rfl, .inr ⟨_, rfl, by omega, j, c, e⟩⟩
          · rw [aD (by simp; omega)]
            exact ⟨_, rfl, ⟨j + 1, rfl, c, fun k hk => by
              by_cases q : k = j
              · rw [q]; exact e
              · exact h k (by omega)⟩, by omega⟩
        · obtain rfl : j = l.n := by omega
          rw [aD (dge (Nat.le_refl _))]
          exact ⟨_, rfl, .inl ⟨rfl, fun ⟨k, hk, e⟩ => h k hk e⟩⟩)
      0 ⟨0, rfl, Nat.zero_le _, fun k hk => absurd hk (Nat.not_lt_zero _)⟩
    obtain ⟨z, hz, ⟨rfl, r⟩ | ⟨y, rfl, y0, r⟩⟩ := key
    · rw [Ey]; unfold yB
      rw [aI (by rw [Ac]; exact hz)]
      exact ⟨_, rfl, .inl ⟨rfl, r⟩⟩
    · rw [Ey]; unfold yB
      rw [aI (by rw [Ac]; exact hz)]
      exact ⟨_, rfl, .inr ⟨y0, r⟩⟩
  obtain ⟨z, ez, h⟩ := e1
  rw [TW]; unfold Bl
  rw [get_bind ez]
  refine ⟨_, rfl, ?_⟩
  rcases h with ⟨z1, h⟩ | ⟨z0, h⟩
  · rw [z1]; exact ⟨fun e => by { cases e }, fun e => absurd e h⟩
  · exact ⟨fun _ => h, fun _ => decide_eq_true z0⟩
theorem ajj (l : Sq Int) (hn : l.n ≤ 64) : ∃ b, mg l = some b ∧ (b = true ↔ ¬ Rng l) := by
  have too : ∀ p : Int, ∃ b, BO p = some b ∧ (b = true ↔ ¬ (-70368744177664 ≤ p ∧ p ≤ 70368744177664)) := fun p => by
    rw [QA]; unfold zK
    by_cases c : p < -70368744177664
    · rw [aA (decide_eq_true c)]; exact ⟨_, rfl, fun _ => by omega, fun _ => rfl⟩
    · rw [aD (decide_eq_false c)]
      refine ⟨_, rfl, fun h => ?_, fun h => decide_eq_true (by omega)⟩
      have := of_decide_eq_true h
      omega
  have e1 : ∃ z, xY l = some z ∧ ((z = -1 ∧ Rng l) ∨ (0 ≤ z ∧ ¬ Rng l)) := by
    have key := bH (step := fun x : Int => iO l x)
      (fun x => ∃ j : Nat, x = j ∧ j ≤ l.n ∧ ∀ k, k < j → -70368744177664 ≤ l.f k ∧ l.f k ≤ 70368744177664) (fun x => l.n - x.toNat)
      (fun z => (z = .inl () ∧ Rng l) ∨ ∃ y : Int, z = .inr y ∧ 0 ≤ y ∧ ¬ Rng l) (fun x hx => by
        obtain ⟨j, rfl, hj, h⟩ := hx
        unfold iO
        by_cases c : j < l.n
        · obtain ⟨b, eb, hb⟩ := too (l.f j)
          rw [aA (dlt c), aA (dix c), aF, aQ (by omega), get_bind eb]
          cases b with
          | true =>
            rw [aA rfl]
            exact ⟨_, rfl, .inr ⟨_, rfl, by omega, fun r => hb.1 rfl (r j c)⟩⟩
          | false =>
            rw [aD rfl]
            have e : -70368744177664 ≤ l.f j ∧ l.f j ≤ 70368744177664 := Classical.byContradiction fun n => by cases hb.2 n
            exact ⟨_, rfl, ⟨j + 1, rfl, c, fun k hk => by
              by_cases q : k = j
              · rw [q]; exact e
              · exact h k (by omega)⟩, by omega⟩
        · obtain rfl : j = l.n := by omega
          rw [aD (dge (Nat.le_refl _))]
          exact ⟨_, rfl, .inl ⟨rfl, h⟩⟩)
      0 ⟨0, rfl, Nat.zero_le _, fun k hk => absurd hk (Nat.not_lt_zero _)⟩
    obtain ⟨z, hz, ⟨rfl, r⟩ | ⟨y, rfl, y0, r⟩⟩ := key
    · rw [zY]; unfold nX
      rw [aI (by rw [xB]; exact hz)]
      exact ⟨_, rfl, .inl ⟨rfl, r⟩⟩
    · rw [zY]; unfold nX
      rw [aI (by rw [xB]; exact hz)]
      exact ⟨_, rfl, .inr ⟨y0, r⟩⟩
  obtain ⟨z, ez, h⟩ := e1
  rw [ET]; unfold qw
  rw [get_bind ez]
  refine ⟨_, rfl, ?_⟩
  rcases h with ⟨z1, h⟩ | ⟨z0, h⟩
  · rw [z1]; exact ⟨fun e => by { cases e }, fun e => absurd h e⟩
  · exact ⟨fun _ => h, fun _ => decide_eq_true z0⟩
theorem ahu {m : aL} (ok : uV m) (h12 : m.Places.n ≤ 12) : ∃ c, DU m = some c ∧ c.n ≤ 1000 ∧ ∀ v : Int, 0 ≤ v → v < m.Places.n → (In c v ↔ ¬ Aw m v) := by
  obtain ⟨c, ec, dc, hc⟩ := agy ok h12
  have r : ∀ i, i < c.n → 0 ≤ c.f i ∧ c.f i < m.Places.n := fun i hi => by
    have := (hc (c.f i)).1 ⟨i, hi, rfl⟩
    exact ⟨this.1, this.2.1⟩
  have := php m.Places.n c.n (fun i => (c.f i).toNat) (fun i hi => by have := r i hi; omega) (fun i j hi hj e => dc i j hi hj (by have := r i hi; have := r j hj; omega))
  exact ⟨c, ec, by omega, fun v v0 v1 => (hc v).trans (ajK v0 v1)⟩
theorem ahC {a : SAir} {s : au} (rt : aZ a s = true) (h12 : a.Mine.Places.n ≤ 12) {b : bM} (pL : bQ a b.Low) (pH : bQ a b.High) :
    ∃ z, FZ a s b = some z ∧ (z = true ↔ ∀ i, i < a.Mine.Places.n → Zt a s b.Low b.High i) := by
  have ok := aW rt
  have ln := pL.n
  have hn := pH.n
  obtain ⟨c, ec, cn, hc⟩ := ahu ok.m h12
  have el : AL a.Mine.Places a.Mine.Roads a.Fans a.Doors s.Fans s.Doors b.Low b.High c 0 = some (sumO (aR (gQ (Zt a s b.Low b.High)) a.Mine.Places.n 0)) := by
    rw [OI, ← jV]
    refine aX (step := fun v => jB a.Mine.Places a.Mine.Roads a.Fans a.Doors s.Fans s.Doors b.Low b.High c v) (gQ (Zt a s b.Low b.High)) (fun i hi => ?_) ?_ a.Mine.Places.n 0 (Nat.zero_add _)
    · unfold jB gQ
      rw [aA (dlt hi), aA (dix hi), aF, aQ (by omega)]
      have pr : ∀ l, bQ a l → PrOK a s l i := fun l hl => ⟨rt, hl, by omega, by have := hl.n; omega⟩
      have fixed : (a.Mine.Places.f i).Surface = true ∨ ¬ Aw a.Mine i → ∀ fl,
          (Zt a s b.Low b.High i ∧ (DT.ite (decide ((0 : Int) ≤ (i : Int) ∧ (i : Int) < ((b.Low.n : Nat) : Int))) (.ite (b.Low.f i != (0 : Int)) (.leaf (.r ())) (.ite (decide ((0 : Int) ≤ (i : Int) ∧ (i : Int) < ((b.High.n : Nat) : Int))) (.ite (b.High.f i != (0 : Int)) (.leaf (.r ())) (.leaf (.next ((i + 1 : Nat) : Int)))) .fail)) fl : DT (LR Int Unit Unit)).get = some (.next ((i + 1 : Nat) : Int)))
          ∨ (¬ Zt a s b.Low b.High i ∧ (DT.ite (decide ((0 : Int) ≤ (i : Int) ∧ (i : Int) < ((b.Low.n : Nat) : Int))) (.ite (b.Low.f i != (0 : Int)) (.leaf (.r ())) (.ite (decide ((0 : Int) ≤ (i : Int) ∧ (i : Int) < ((b.High.n : Nat) : Int))) (.ite (b.High.f i != (0 : Int)) (.leaf (.r ())) (.leaf (.next ((i + 1 : Nat) : Int)))) .fail)) fl : DT (LR Int Unit Unit)).get = some (.r ())) := fun fx fl => by
        rw [aA (dix (by omega))]
        by_cases c1 : b.Low.f i = 0
        · rw [aD (by rw [c1]; rfl), aA (dix (by omega))]
          by_cases c2 : b.High.f i = 0
          · rw [aD (by rw [c2]; rfl)]; exact .inl ⟨⟨fun _ => ⟨c1, c2⟩, fun n => absurd fx n⟩, rfl⟩
          · rw [aA (by simp [c2])]; exact .inr ⟨fun q => c2 (q.1 fx).2, rfl⟩
        · rw [aA (by simp [c1])]; exact .inr ⟨fun q => c1 (q.1 fx).1, rfl⟩
      cases hs : (a.Mine.Places.f i).Surface with
      | true =>
        rw [aA rfl]
        rcases fixed (.inl hs) .fail with ⟨h, e⟩ | ⟨h, e⟩
        · rw [if_pos h]; exact e
        · rw [if_neg h]; exact e
      | false =>
        rw [aD rfl]
        obtain ⟨z, ez, hz⟩ := ad4 c i cn
        have hz' := hz.trans (hc i (by omega) (by omega))
        rw [get_bind ez]
        cases z with
        | true =>
          rw [aA rfl]
          rcases fixed (.inr (hz'.1 rfl)) .fail with ⟨h, e⟩ | ⟨h, e⟩
          · rw [if_pos h]; exact e
          · rw [if_neg h]; exact e
        | false =>
          have nf : ¬ ((a.Mine.Places.f i).Surface = true ∨ ¬ Aw a.Mine i) := fun q => q.elim (fun e => by rw [hs] at e; cases e) fun n => by cases hz'.2 n
          rw [aD rfl]
          refine (get_bind (Iz (pr b.High pH))).trans ?_
          unfold netS
          dsimp only
          rw [aF]
          by_cases c1 : NL a s b.High i (b.High.f i) < 0
          · rw [aA (decide_eq_true c1), if_neg fun q => by have := (q.2 nf).1; omega]; rfl
          · rw [aD (decide_eq_false c1)]
            refine (get_bind (Iz (pr b.Low pL))).trans ?_
            unfold netS
            dsimp only
            rw [aF]
            by_cases c2 : NH a s b.Low i (b.Low.f i) > 0
            · rw [aA (decide_eq_true c2), if_neg fun q => by have := (q.2 nf).2; omega]; rfl
            · rw [aD (decide_eq_false c2), if_pos ⟨fun q => absurd q nf, fun _ => ⟨by omega, by omega⟩⟩]; rfl
    · unfold jB
      rw [aD (dge (Nat.le_refl _))]; rfl
  rw [UA]; unfold BN
  rw [get_bind ec]
  by_cases h7 : ∀ i, i < a.Mine.Places.n → Zt a s b.Low b.High i
  · rw [afc h7] at el
    rw [aI el]
    exact ⟨true, rfl, fun _ => h7, fun _ => rfl⟩
  · rw [afd h7] at el
    rw [aI el]
    exact ⟨false, rfl, fun h => by (cases h), fun h => absurd h h7⟩
theorem L8 (a : SAir) (s : au) (b : bM) (h12 : a.Mine.Places.n ≤ 12) : CB a s b = some (FY a s b) := by
  rw [WI]; unfold Dy FY
  rw [get_bind (Px a)]
  by_cases h1 : airE a = 0
  · rw [aD (by rw [h1]; rfl), if_neg (not_not_intro h1), get_bind (FR a s)]
    by_cases h2 : aZ a s = true
    · rw [h2, aD (b := !true) rfl, if_neg (by simp)]
      by_cases h3 : b.Low.n = a.Mine.Places.n
      · rw [aD (by rw [h3]; simp), if_neg (not_not_intro h3)]
        by_cases h4 : b.High.n = a.Mine.Places.n
        · rw [aD (by rw [h4]; simp), if_neg (not_not_intro h4)]
          obtain ⟨x, ex, hx⟩ := ajj b.Low (by omega)
          obtain ⟨y, ey, hy⟩ := ajj b.High (by omega)
          rw [get_bind ex]
          by_cases h5 : Rng b.Low
          · have : x = false := by cases x with
              | false => rfl
              | true => exact absurd h5 (hx.1 rfl)
            rw [this, aD rfl, if_neg (not_not_intro h5), get_bind ey]
            by_cases h6 : Rng b.High
            · have : y = false := by cases y with
                | false => rfl
                | true => exact absurd h6 (hy.1 rfl)
              obtain ⟨z, ez, hz⟩ := ahC (b := b) h2 h12 ⟨h3, h5⟩ ⟨h4, h6⟩
              rw [this, aD rfl, if_neg (not_not_intro h6), get_bind ez]
              by_cases h7 : ∀ i, i < a.Mine.Places.n → Zt a s b.Low b.High i
              · rw [hz.2 h7, aD (b := !true) rfl, if_pos h7]; rfl
              · have : z = false := by cases z with
                  | false => rfl
                  | true => exact absurd (hz.1 rfl) h7
                rw [this, aA (b := !false) rfl, if_neg h7]; rfl
            · rw [hy.2 h6, aA rfl, if_pos h6]; rfl
          · rw [hx.2 h5, aA rfl, if_pos h5]; rfl
        · rw [aA (by simp; omega), if_pos h4]; rfl
      · rw [aA (by simp; omega), if_pos h3]; rfl
    · have h2 : aZ a s = false := by simpa using h2
      rw [h2, aA (b := !false) rfl, if_pos rfl]; rfl
  · rw [aA (by simp [h1]), if_pos h1]; rfl
end Go.Proofs.YtmfiagdelnddkaaGreat.Ab
