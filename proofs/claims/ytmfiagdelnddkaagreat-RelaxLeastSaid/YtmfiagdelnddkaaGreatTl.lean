/- Stage 12: Least. -/
import Derived.Test.YtmfiagdelnddkaaGreatTE
import Derived.Test.YtmfiagdelnddkaaGreatXkl
namespace Go.Proofs.YtmfiagdelnddkaaGreat.Ab
open Go
theorem ahG (codes : Sq Int) (hb : ∀ k, 0 ≤ codes.f k ∧ codes.f k ≤ 255) (by_ : Int) (_ : 0 ≤ by_ ∧ by_ ≤ 65535) : (uX codes by_).get = some true := by
  obtain ⟨c, e0, hc⟩ := X7 codes hb
  obtain ⟨a, s, x, b, e1, b0, b1, md⟩ := rQ hc
  have np := md.np
  have n1 := md.n1
  have rt := md.right
  obtain ⟨l, i, e2, _, _, st⟩ := acy (hc.at b0 b1) md
  have ln := st.n
  have h0 := st.start rt
  unfold uX
  rw [get_bind e0, get_bind e1]
  dsimp only
  rw [get_bind e2]
  dsimp only
  rw [get_bind (X8 a s l (by omega) (by omega))]
  rcases zf (s := s) (up := true) h0 with h | h
  · obtain ⟨p, hp⟩ : ∃ p, aS a s l true = (p, 0) := ⟨_, Prod.ext rfl h⟩
    have R := wI hp
    have pn := R.sup.p.n
    obtain ⟨t, et, tn, ht⟩ := aa7 (aW rt).m
    have k1 : xP by_ a.Mine.Places a.Mine.Roads a.Fans a.Doors s.Fans s.Doors l p t 0 = some (.inl ()) := by
      rw [Jc]
      refine (aX (step := fun v => gK by_ a.Mine.Places a.Mine.Roads a.Fans a.Doors s.Fans s.Doors l p t v) (n := a.Mine.Places.n) (fun _ => none) (fun i hi => ?_) ?_ a.Mine.Places.n 0 (Nat.zero_add _)).trans ?_
      · unfold gK
        have ge := R.ge i
        rw [aA (dlt hi), aA (dix hi), aA (dix (by omega)), aA (dix (by omega)), aF, aQ (by omega), aD (decide_eq_false (by omega))]
        cases hs : (a.Mine.Places.f i).Surface with
        | true => rw [aD (b := !true) rfl]; rfl
        | false =>
          rw [aA (b := !false) rfl, aA (dix (by omega))]
          cases ti : t.f i with
          | false => rw [aD rfl]; rfl
          | true =>
            have nf : ¬ Fx a i := fun q => q.elim (fun e => by rw [hs] at e; cases e) fun n => n ((ht i hi).1 ti)
            have u := R.sup.u i hi nf
            rw [aA rfl]
            refine (get_bind (Iz (P := p) (pl := (i : Int)) ⟨rt, R.sup.p, by omega, by omega⟩)).trans ?_
            unfold netS
            dsimp only
            rw [aF, aD (decide_eq_false (by omega))]; rfl
      · unfold gK
        rw [aD (dge (Nat.le_refl _))]; rfl
      · rw [dx fun _ _ _ => rfl]
    have k2 := bH (step := fun v : Int × Sq Int => jY by_ a.Mine.Places a.Mine.Roads a.Fans a.Doors s.Fans s.Doors l p v.1 v.2)
      (fun v => ∃ k : Nat, v.1 = k ∧ k ≤ a.Mine.Places.n ∧ v.2.n = a.Mine.Places.n ∧ (∀ j, l.f j ≤ v.2.f j ∧ v.2.f j ≤ p.f j) ∧ ∀ j, k ≤ j → v.2.f j = l.f j) (fun v => a.Mine.Places.n - v.1.toNat)
      (fun z => ∃ m, z = .inl m ∧ m.n = a.Mine.Places.n ∧ ∀ j, l.f j ≤ m.f j ∧ m.f j ≤ p.f j) (fun v hv => by
        obtain ⟨i, m⟩ := v
        obtain ⟨k, h1, hk, h2, h3, h4⟩ := hv
        dsimp only at h1 h2 h3 h4 ⊢
        subst h1
        unfold jY
        rcases Nat.lt_or_ge k a.Mine.Places.n with hi | hi
        · have own := h4 k (Nat.le_refl _)
          have ge := R.ge k
          have lr := st.f k hi
          have pr := R.sup.p.f k (by omega)
          obtain ⟨z, ez, _, hz⟩ := akw (wr by_) (p.f k - l.f k + 1) (by omega)
          have hz := hz (by omega)
          rw [aA (dlt (by omega)), aA (dix (by omega)), aA (dix (by omega)), aA (dix (by omega)), aF, aQ (by omega), aO (x := p.f k - l.f k) (by omega) (by omega), aO (x := p.f k - l.f k + 1) (by omega) (by omega), get_bind ez, aA (dix (by omega)), aO (x := m.f k + z) (by omega) (by omega)]
          refine ⟨_, rfl, ⟨k + 1, rfl, hi, h2, fun j => ?_, fun j hj => ?_⟩, by dsimp only; omega⟩
          · show _ ≤ cond _ _ _ ∧ cond _ _ _ ≤ _
            by_cases q : j = k
            · rw [Ar q, q]; dsimp only [cond]; omega
            · rw [Aq q]; exact h3 j
          · show cond _ _ _ = _
            rw [Aq (by omega)]; exact h4 j (by omega)
        · obtain rfl : k = a.Mine.Places.n := by omega
          rw [aD (dge (by omega))]
          exact ⟨_, rfl, _, rfl, h2, h3⟩)
      (0, l) ⟨0, rfl, Nat.zero_le _, ln, fun j => ⟨Int.le_refl _, R.ge j⟩, fun _ _ => rfl⟩
    obtain ⟨z, hz, m, rfl, mn, hm⟩ := k2
    have pz : ∀ i, i < a.Mine.Places.n → Fx a i → p.f i = 0 := fun i hi f => (R.fx i f).trans (st.z i hi f)
    have ms : dR a s m = 0 := wU rt ⟨mn, fun k hk => by
        have q := hm k
        have u := st.f k (by omega)
        have v := R.sup.p.f k (by omega)
        omega⟩ fun i hi f => by
      have q := hm i
      have u := st.z i hi f
      have v := pz i hi f
      omega
    have ag := adJ rt R.sup pz
    rw [hp]
    dsimp only
    rw [aD (show ((0 : Int) != 0) = false from rfl), aD (by rw [pn, ln]; simp), get_bind et, aI k1]
    dsimp only [Sum.elim]
    rw [aA (decide_eq_true ⟨by omega, by omega⟩), aI (by rw [Jd]; exact hz)]
    dsimp only [Sum.elim]
    rw [get_bind (X8 a s m (by omega) (by omega)), get_bind (X8 a s p (by omega) (by omega)), ag]
    dsimp only
    have ip : fJ p p = some true := Lv (by omega)
    rcases zf (s := s) (up := true) ms with g | g
    · obtain ⟨q, hq⟩ : ∃ q, aS a s m true = (q, 0) := ⟨_, Prod.ext rfl g⟩
      have same := af3 hp (fun j => (hm j).1) (fun j => (hm j).2) hq
      have qn := (wI hq).sup.p.n
      have iq : fJ q p = some true := Lx (by omega) (by omega) fun j _ => same j
      rw [hq]
      dsimp only
      rw [aD (show ((0 : Int) == 2) = false from rfl), aA (show ((0 : Int) == 0) = true from rfl), get_bind iq, aA rfl, aA (show ((0 : Int) == 0) = true from rfl), get_bind ip, aA rfl, get_bind jm]; rfl
    · rw [g]
      dsimp only
      rw [aA (show ((2 : Int) == 2) = true from rfl), aA (show ((0 : Int) == 0) = true from rfl), get_bind ip, aA rfl, get_bind jm]; rfl
  · rw [h]
    dsimp only
    rw [aA (show ((2 : Int) != 0) = true from rfl), aA (show ((2 : Int) == 2) = true from rfl), get_bind jm]; rfl
end Go.Proofs.YtmfiagdelnddkaaGreat.Ab
