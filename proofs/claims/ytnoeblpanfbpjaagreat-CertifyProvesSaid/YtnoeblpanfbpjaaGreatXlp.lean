/- Stage 11: Proves. -/
import Derived.Test.YtnoeblpanfbpjaaGreatXP
import Derived.Test.YtnoeblpanfbpjaaGreatXFi
import Derived.Test.YtnoeblpanfbpjaaGreatXQ
import Derived.Test.YtnoeblpanfbpjaaGreatXkp
import Derived.Test.YtnoeblpanfbpjaaGreatXu
namespace Go.Proofs.YtnoeblpanfbpjaaGreat.Ab
open Go

theorem certifyProves_true (codes : Sq Int) (hb : ∀ k, 0 ≤ codes.f k ∧ codes.f k ≤ 255) : (law11_CertifyProves_t codes).get = some true := by
  obtain ⟨c, e0, hc⟩ := New_ex codes hb
  obtain ⟨a, s, x, b, e1, b0, b1, md⟩ := Codes_Made_ex hc
  have rt := md.right
  have n1 := md.n1
  have np := md.np
  have nr := md.nr
  obtain ⟨pn, qn⟩ := md.lens
  obtain ⟨bd, i, e2, _, _, bl, bh⟩ := bounds_ex (hc.at b0 b1) rt n1 pn
  unfold law11_CertifyProves_t
  rw [get_bind e0, get_bind e1]
  dsimp only
  rw [get_bind e2]
  dsimp only
  rw [get_bind (branch_Fits_v a s x), md.zero, get_f (show ((0 : Int) != 0) = false from rfl), get_bind (certify_Check_v a s bd (by omega))]
  by_cases z : certE a s bd = 0
  · have acc := (certE_ok z).2
    have fit := md.fit
    obtain ⟨t, et, tn, ht⟩ := Airy_ex acc.r.m
    obtain ⟨l, el, _, l1⟩ := certify_Flows_ex a s bd (by omega)
    obtain ⟨ln, lf⟩ := l1 z
    have k1 : law11_CertifyProves_l10 x.Pressures a.Mine.Places a.Mine.Roads a.Fans a.Doors s.Fans s.Doors x.Flows bd.Low bd.High t 0 = some (.inl ()) := by
      rw [law11_CertifyProves_l10_eq]
      refine (loop_first (step := fun v => law11_CertifyProves_l10_step x.Pressures a.Mine.Places a.Mine.Roads a.Fans a.Doors s.Fans s.Doors x.Flows bd.Low bd.High t v) (n := x.Pressures.n) (fun _ => none) (fun i hi => ?_) ?_ x.Pressures.n 0 (Nat.zero_add _)).trans ?_
      · unfold law11_CertifyProves_l10_step
        rw [get_t (dlt hi), get_t (dix hi), get_t (dix (by omega)), toNat_nat, wr_next (by omega)]
        by_cases c : t.f i = true
        · have aw := (ht i (by omega)).1 c
          have a1 := acc.above fit i (by omega) aw
          have a2 := acc.below fit i (by omega) aw
          rw [get_t c, get_t (dix (by omega)), get_f (decide_eq_false (by omega)), get_t (dix (by omega)), get_f (decide_eq_false (by omega))]; rfl
        · rw [get_f (by simpa using c)]; rfl
      · unfold law11_CertifyProves_l10_step
        rw [get_f (dge (Nat.le_refl _))]; rfl
      · rw [firstN_all fun _ _ _ => rfl]
    have k2 : law11_CertifyProves_l19 x.Flows l 0 = some (.inl ()) := by
      rw [law11_CertifyProves_l19_eq]
      refine (loop_first (step := fun v => law11_CertifyProves_l19_step x.Flows l v) (n := x.Flows.n) (fun _ => none) (fun i hi => ?_) ?_ x.Flows.n 0 (Nat.zero_add _)).trans ?_
      · unfold law11_CertifyProves_l19_step
        have q : (l.f i).Low ≤ x.Flows.f i ∧ x.Flows.f i ≤ (l.f i).High := by
          rw [lf i (by omega)]
          unfold flowP
          split
          · rename_i cl
            have := fit.cl i (by omega) cl
            dsimp only
            omega
          · rename_i cl
            split
            · rename_i aw
              exact acc.flow fit (by omega) (by simpa using cl) aw
            · have := fit.qb i (by omega)
              dsimp only
              omega
        rw [get_t (dlt hi), get_t (dix hi), get_t (dix (by omega)), toNat_nat, wr_next (by omega), get_f (decide_eq_false (by omega)), get_t (dix (by omega)), get_f (decide_eq_false (by omega))]; rfl
      · unfold law11_CertifyProves_l19_step
        rw [get_f (dge (Nat.le_refl _))]; rfl
      · rw [firstN_all fun _ _ _ => rfl]
    rw [z, get_f (show ((0 : Int) != 0) = false from rfl), get_bind et, get_sum k1]
    dsimp only [Sum.elim]
    rw [get_bind el, get_f (by rw [ln, qn]; simp), get_sum k2]
    dsimp only [Sum.elim]
    rw [get_bind awake_true]; rfl
  · rw [get_t (by simp [z]), get_bind awake_true]; rfl
end Go.Proofs.YtnoeblpanfbpjaaGreat.Ab
