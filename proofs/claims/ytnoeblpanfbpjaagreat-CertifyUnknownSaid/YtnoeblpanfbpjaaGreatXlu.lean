/- Stage 11: Unknown. -/
import Derived.Test.YtnoeblpanfbpjaaGreatXP
import Derived.Test.YtnoeblpanfbpjaaGreatXV
import Derived.Test.YtnoeblpanfbpjaaGreatXQ
import Derived.Test.YtnoeblpanfbpjaaGreatXku
import Derived.Test.YtnoeblpanfbpjaaGreatXu
namespace Go.Proofs.YtnoeblpanfbpjaaGreat.Ab
open Go

theorem Unknown_l5_ex (fan door : Int) (x1 : Sq Int) (x2 : Int) (x3 : Sq SPlace) (x4 : Sq SRoad) (x5 : Sq SFan) (x6 : Sq SDoor) (F x8 x9 x10 : Sq Int) (hn : F.n ≤ 1000) :
    ∃ l, law11_CertifyUnknown_l5 fan door x1 x2 x3 x4 x5 x6 F x8 x9 x10 0 F = some (.inl l) ∧ l.n = F.n ∧ ∀ i, i < F.n → l.f i = F.f i ∨ (F.f i = -1 ∧ 0 ≤ l.f i ∧ l.f i ≤ 2) := by
  have key := loop_ex (step := fun v : Int × Sq Int => law11_CertifyUnknown_l5_step fan door x1 x2 x3 x4 x5 x6 F x8 x9 x10 v.1 v.2)
    (fun v => ∃ k : Nat, v.1 = k ∧ k ≤ F.n ∧ v.2.n = F.n ∧ (∀ i, i < k → v.2.f i = F.f i ∨ (F.f i = -1 ∧ 0 ≤ v.2.f i ∧ v.2.f i ≤ 2)) ∧ ∀ i, k ≤ i → v.2.f i = F.f i) (fun v => F.n - v.1.toNat)
    (fun z => ∃ l, z = .inl l ∧ l.n = F.n ∧ ∀ i, i < F.n → l.f i = F.f i ∨ (F.f i = -1 ∧ 0 ≤ l.f i ∧ l.f i ≤ 2)) (fun v hv => by
      obtain ⟨x, l⟩ := v
      obtain ⟨k, h1, hk, ln, h, h'⟩ := hv
      dsimp only at h1 ln h h' ⊢
      subst h1
      unfold law11_CertifyUnknown_l5_step
      rcases Nat.lt_or_ge k F.n with hi | hi
      · have ek := h' k (Nat.le_refl _)
        rw [get_t (dlt hi), get_t (dix (by omega)), toNat_nat, wr_next (by omega)]
        by_cases c : l.f k = -1
        · obtain ⟨v, ev, _, hv⟩ := Mod_ex fan 3 (by omega)
          have hv := hv (by omega)
          rw [get_t (by rw [c]; rfl), get_bind ev, get_t (dix (by omega))]
          refine ⟨_, rfl, ⟨k + 1, rfl, hi, ln, fun i hj => ?_, fun i hj => ?_⟩, by dsimp only; omega⟩
          · show cond _ _ _ = _ ∨ (_ ∧ _ ≤ cond _ _ _ ∧ cond _ _ _ ≤ _)
            by_cases q : i = k
            · rw [beq_t q, q]; exact .inr ⟨by omega, hv.1, by show v ≤ 2; omega⟩
            · rw [beq_f q]; exact h i (by omega)
          · show cond _ _ _ = _
            rw [beq_f (by omega)]; exact h' i (by omega)
        · rw [get_f (by simp [c])]
          refine ⟨_, rfl, ⟨k + 1, rfl, hi, ln, fun i hj => ?_, fun i hj => h' i (by omega)⟩, by dsimp only; omega⟩
          by_cases q : i = k
          · rw [q]; exact .inl ek
          · exact h i (by omega)
      · obtain rfl : k = F.n := by omega
        rw [get_f (dge (by omega))]
        exact ⟨_, rfl, _, rfl, ln, h⟩)
    (0, F) ⟨0, rfl, Nat.zero_le _, rfl, fun i hi => absurd hi (Nat.not_lt_zero _), fun _ _ => rfl⟩
  obtain ⟨z, hz, l, rfl, r⟩ := key
  exact ⟨l, by rw [law11_CertifyUnknown_l5_eq]; exact hz, r⟩
theorem Unknown_l11_ex (door : Int) (x1 : Sq Int) (x2 : Int) (x3 : Sq SPlace) (x4 : Sq SRoad) (x5 : Sq SFan) (D : Sq SDoor) (x7 F x9 x10 x11 : Sq Int) (hn : F.n ≤ 1000) (hd : F.n ≤ D.n) (hr : ∀ i, i < D.n → 2 ≤ (D.f i).Rests.n ∧ (D.f i).Rests.n ≤ 1000) :
    ∃ l, law11_CertifyUnknown_l11 door x1 x2 x3 x4 x5 D x7 F x9 x10 x11 0 F = some (.inl l) ∧ l.n = F.n ∧ ∀ i, i < F.n → l.f i = F.f i ∨ (F.f i = -1 ∧ 0 ≤ l.f i ∧ l.f i < ((D.f i).Rests.n : Int)) := by
  have key := loop_ex (step := fun v : Int × Sq Int => law11_CertifyUnknown_l11_step door x1 x2 x3 x4 x5 D x7 F x9 x10 x11 v.1 v.2)
    (fun v => ∃ k : Nat, v.1 = k ∧ k ≤ F.n ∧ v.2.n = F.n ∧ (∀ i, i < k → v.2.f i = F.f i ∨ (F.f i = -1 ∧ 0 ≤ v.2.f i ∧ v.2.f i < ((D.f i).Rests.n : Int))) ∧ ∀ i, k ≤ i → v.2.f i = F.f i) (fun v => F.n - v.1.toNat)
    (fun z => ∃ l, z = .inl l ∧ l.n = F.n ∧ ∀ i, i < F.n → l.f i = F.f i ∨ (F.f i = -1 ∧ 0 ≤ l.f i ∧ l.f i < ((D.f i).Rests.n : Int))) (fun v hv => by
      obtain ⟨x, l⟩ := v
      obtain ⟨k, h1, hk, ln, h, h'⟩ := hv
      dsimp only at h1 ln h h' ⊢
      subst h1
      unfold law11_CertifyUnknown_l11_step
      rcases Nat.lt_or_ge k F.n with hi | hi
      · have ek := h' k (Nat.le_refl _)
        have rk := hr k (by omega)
        rw [get_t (dlt hi), get_t (dix (by omega)), toNat_nat, wr_next (by omega)]
        by_cases c : l.f k = -1
        · obtain ⟨v, ev, _, hv⟩ := Mod_ex door ((D.f k).Rests.n : Int) (by omega)
          have hv := hv (by omega)
          rw [get_t (by rw [c]; rfl), get_t (dix (by omega)), get_bind ev, get_t (dix (by omega))]
          refine ⟨_, rfl, ⟨k + 1, rfl, hi, ln, fun i hj => ?_, fun i hj => ?_⟩, by dsimp only; omega⟩
          · show cond _ _ _ = _ ∨ (_ ∧ _ ≤ cond _ _ _ ∧ cond _ _ _ < _)
            by_cases q : i = k
            · rw [beq_t q, q]; exact .inr ⟨by omega, hv.1, hv.2⟩
            · rw [beq_f q]; exact h i (by omega)
          · show cond _ _ _ = _
            rw [beq_f (by omega)]; exact h' i (by omega)
        · rw [get_f (by simp [c])]
          refine ⟨_, rfl, ⟨k + 1, rfl, hi, ln, fun i hj => ?_, fun i hj => h' i (by omega)⟩, by dsimp only; omega⟩
          by_cases q : i = k
          · rw [q]; exact .inl ek
          · exact h i (by omega)
      · obtain rfl : k = F.n := by omega
        rw [get_f (dge (by omega))]
        exact ⟨_, rfl, _, rfl, ln, h⟩)
    (0, F) ⟨0, rfl, Nat.zero_le _, rfl, fun i hi => absurd hi (Nat.not_lt_zero _), fun _ _ => rfl⟩
  obtain ⟨z, hz, l, rfl, r⟩ := key
  exact ⟨l, by rw [law11_CertifyUnknown_l11_eq]; exact hz, r⟩
theorem certifyUnknown_true (codes : Sq Int) (hb : ∀ k, 0 ≤ codes.f k ∧ codes.f k ≤ 255) (fan door : Int) : (law11_CertifyUnknown_t codes fan door).get = some true := by
  obtain ⟨c, e0, hc⟩ := New_ex codes hb
  obtain ⟨a, s, x, b, e1, b0, b1, md⟩ := Codes_Made_ex hc
  have rt := md.right
  have n1 := md.n1
  have np := md.np
  have ok := right_ok rt
  have nr := md.nr
  have nf := ok.nf
  have nd := ok.nd
  have sf := ok.sf
  have sd := ok.sd
  obtain ⟨pn, qn⟩ := md.lens
  obtain ⟨bd, i, e2, i0, i1, bl, bh⟩ := bounds_ex (hc.at b0 b1) rt n1 pn
  obtain ⟨lF, eF, nF, hF⟩ := Unknown_l5_ex fan door c.l_ b a.Mine.Places a.Mine.Roads a.Fans a.Doors s.Fans s.Doors x.Pressures x.Flows (by omega)
  obtain ⟨lD, eD, nD, hD⟩ := Unknown_l11_ex door c.l_ b a.Mine.Places a.Mine.Roads a.Fans a.Doors s.Fans s.Doors x.Pressures x.Flows lF (by omega) (by omega) (fun i hi => by have := (ok.d i hi).1; have q0 := this.n0; have q1 := this.n1; omega)
  have nar : Nar a s ⟨lF, lD⟩ := ⟨nF, nD, hF, hD⟩
  unfold law11_CertifyUnknown_t
  rw [get_bind e0, get_bind e1]
  dsimp only
  rw [get_t (decide_eq_true ⟨by omega, by omega⟩), get_t (decide_eq_true ⟨by omega, by omega⟩), get_sum eF]
  dsimp only [Sum.elim]
  rw [get_sum eD]
  dsimp only [Sum.elim]
  rw [get_bind e2]
  dsimp only
  rw [get_bind (certify_Check_v a s bd (by omega))]
  by_cases z : certE a s bd = 0
  · have z2 := certE_nar nar z
    obtain ⟨k, ek, _, k1⟩ := certify_Flows_ex a s bd (by omega)
    obtain ⟨kn, kf⟩ := k1 z
    obtain ⟨l, el, _, l1⟩ := certify_Flows_ex a ⟨lF, lD⟩ bd (by omega)
    obtain ⟨ln, lf⟩ := l1 z2
    have es : law11_CertifyUnknown_l23 k l 0 = some (.inl ()) := by
      rw [law11_CertifyUnknown_l23_eq]
      refine (loop_first (step := fun v => law11_CertifyUnknown_l23_step k l v) (n := k.n) (fun _ => none) (fun i hi => ?_) ?_ k.n 0 (Nat.zero_add _)).trans ?_
      · unfold law11_CertifyUnknown_l23_step
        have q := flow_nar (b := bd) ok nar (show i < a.Mine.Roads.n by omega)
        rw [← kf i (by omega), ← lf i (by omega)] at q
        rw [get_t (dlt hi), get_t (dix (by omega)), get_t (dix hi), toNat_nat, wr_next (by omega), get_f (decide_eq_false (by omega)), get_t (dix (by omega)), get_t (dix hi), get_f (decide_eq_false (by omega))]; rfl
      · unfold law11_CertifyUnknown_l23_step
        rw [get_f (dge (Nat.le_refl _))]; rfl
      · rw [firstN_all fun _ _ _ => rfl]
    rw [z, get_f (show ((0 : Int) != 0) = false from rfl), get_bind ek, get_bind el, get_bind (certify_Check_v a ⟨lF, lD⟩ bd (by omega)), z2, get_f (show ((0 : Int) != 0) = false from rfl), get_f (by rw [kn]; simp), get_f (by rw [ln, kn]; simp), get_sum es]
    dsimp only [Sum.elim]
    rw [get_bind awake_true]; rfl
  · rw [get_t (by simp [z]), get_bind awake_true]; rfl
end Go.Proofs.YtnoeblpanfbpjaaGreat.Ab
